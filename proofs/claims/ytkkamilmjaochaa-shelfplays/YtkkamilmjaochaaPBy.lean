/- ShelfPlays: still. -/
import Derived.Test.YtkkamilmjaochaaPBx
import Derived.Deep.RegionHeld3
namespace Go.Proofs.Ytkkamilmjaochaa
open Go.RowKit
theorem MKd.next {K : Nat → Nat} {w : World} {B N : Nat} {FL : List Sl} {i : Nat} {s : Sl} (h : MKd K w B N FL i s.n) (hs : FL[i]? = some s) : MKd K w B N FL (i + 1) 0 := fun j s' hs' => by
  obtain ⟨e0, q, l, e1, e2, e3, e4, e5⟩ := h j s' hs'
  refine ⟨e0, q, l, e1, e2, fun hj => ?_, fun hj => e5 (by omega), fun hj => e5 (by omega)⟩
  by_cases e : j = i
  · subst e
    rw [hs] at hs'
    cases hs'
    exact e4 rfl
  · exact e3 (by omega)
theorem mv_drewN (w : World) (K : Nat → Nat) (m : Nat) : Mv (fun _ => False) w (w.drewN m) K K := ⟨rfl, rfl, rfl, Nat.le_refl _, fun _ _ => rfl, fun _ _ _ => rfl⟩
theorem meas6 {n j : Nat} {q : Int} (hq : q = (j : Int) + 1) (hj : j < n) : n - (intOf (.int .i64 q)).toNat < n - (intOf (.int .i64 (j : Int))).toNat := meas hq (by omega)
theorem wrapS {j : Nat} (h : j ≤ 100000000000) : wrap64 ((j : Int) + 1) = (j : Int) + 1 := by unfold wrap64; omega
theorem wrapA {N i M : Nat} (h : N + i = M) (hm : M ≤ 100000000000) : wrap64 ((N : Int) + (i : Int)) = (M : Int) := by unfold wrap64; omega
set_option maxRecDepth 8000 in
set_option maxHeartbeats 8000000 in
theorem still_any {K : Nat → Nat} {w : World} {B bb N : Nat} {vf vw va : Value} {FL WL AL : List Sl} (h : BK K w B bb N vf vw va FL WL AL) (hn : N + FL.length ≤ 10000000000) :
    Calls Try.prog 12 #[ptr bb] w fun e w' => e = .returned (.bool true) ∧ ∃ K' va' AL', BK K' w' B bb (N + FL.length) (.slice none 0 0) (.slice none 0 0) va' [] [] AL' ∧ Mv TS3 w w' K K' := by
  have HBK := hid h
  obtain ⟨fa, fc, hvf, _, hfg⟩ := h.f.form
  obtain ⟨wa, wc, hvw, _, hwg⟩ := h.g.form
  rw [h.lw] at hvw hwg
  obtain ⟨n, hnn⟩ : ∃ n, FL.length = n := ⟨_, rfl⟩
  rw [hnn] at hvf hfg hvw hwg hn ⊢
  subst hvf hvw
  have HF := hid hfg
  have HW := hid hwg
  have HNN := hid hnn
  have HN := hid hn
  have hni : (n : Int) ≤ 10000000000 := by omega
  clear h hn hfg hwg hnn
  go_enter Try.func12, Try.ntmps12
  go_wp2_with fail
  go_loopw [3] (fun i wr => ∃ k m : Nat, i = .int .i64 k ∧ k ≤ n ∧ Hid (wr = w.drewN m)) (fun i _ => n - (intOf i).toNat)
  case atStart => exact ⟨0, 0, rfl, Nat.zero_le _, rfl⟩
  case round =>
    obtain ⟨k, m, rfl, hk, HWR⟩ := hrel
    obtain ⟨wo, hwo⟩ : ∃ wo, wo = wr := ⟨_, rfl⟩
    subst hwo
    have HB := hid (HBK.out.mv (T := fun _ => False) (w' := wo) (K' := K) (by rw [HWR.out]; exact mv_drewN w K m) (fun _ h => h.elim))
    have q0 := HB.out.c.1
    have q1 := HB.out.c.2.1
    by_cases hlt : k < n
    · as_aux_lemma =>
      have hk' : (k : Int) < (n : Int) := by omega
      have hk0 : (0 : Int) ≤ (k : Int) := by omega
      obtain ⟨gf, hgf⟩ := HF.out (Nat.lt_of_le_of_lt (Nat.zero_le _) hlt)
      obtain ⟨gw, hgw⟩ := HW.out (Nat.lt_of_le_of_lt (Nat.zero_le _) hlt)
      subst hgf hgw
      obtain ⟨s, hs⟩ : ∃ s, FL[k]? = some s := ⟨_, List.getElem?_eq_getElem (by rw [HNN.out]; exact hlt)⟩
      obtain ⟨u, l, e1, e2, e3, e4⟩ := HB.out.ent k s hs
      have r0 := HB.out.f.cell1 HNN.out hs
      have r1 := HB.out.g.cell1 (HB.out.lw.trans HNN.out) e1
      have HSm : Hid (∀ m', Calls Try.prog 47 #[.slice s.oa s.n s.c, .slice u.oa u.n u.c] (wo.drewN m') fun e w'' => e = .returned (.bool true) ∧ ∃ m, w'' = wo.drewN m) := fun m' => by
        refine (keys_same (w := wo.drewN m') (n := l.length) (l := l) rfl (e2.mv (mv_drewN wo K m') id).own (e3.mv (mv_drewN wo K m') id).own (by omega)).mono ?_
        rintro _ w' ⟨rfl, m2, h2⟩
        exact ⟨rfl, m' + m2, by rw [h2]; exact World.drewN_drewN _ _ _⟩
      have HWK : Hid (∀ m1, wo.drewN m1 = w.drewN (m + m1)) := fun m1 => by rw [HWR.out, World.drewN_drewN]
      have hwr := wrapS (j := k) (by omega)
      have HSP := hid (And.intro hlt hwr)
      clear e1 e2 e3 e4 hs HB HWR HBK hk
      go_wp2_with fail
      go_quiet (first | (go_at_call 47; with_reducible exact HSm.out _))
      go_wp2
      go_roundw
      case rel => exact ⟨k + 1, _, by first | rfl | (rw [HSP.out.2]; rfl), HSP.out.1, HWK.out _⟩
      case measure => first | exact meas6 rfl HSP.out.1 | exact meas6 HSP.out.2 HSP.out.1
    · obtain rfl : k = n := by omega
      obtain ⟨hL0, hO0, hM0⟩ := HB.out.lb
      have hla := HB.out.la
      have HP0 : Hid (LB K w K wo B bb N (.slice fa k fc) (.slice wa k wc) va FL AL ∧ MKd K wo B N FL 0 0 ∧ Olds K wo AL) := ⟨⟨hL0.blk, hL0.f, hL0.a, hL0.hB, by rw [HWR.out]; exact (mv_drewN w K m).mono (fun _ h => h.elim)⟩, hM0, hO0⟩
      have HLA := hid hla
      clear hL0 hO0 hM0 hla HB HWR HW HBK q1
      go_wp2_with fail
      clear q0
      go_loopw [5] (fun iv wr2 => ∃ (i : Nat) (K' : Nat → Nat), iv = .int .i64 i ∧ i ≤ k ∧ Hid (LB K w K' wr2 B bb N (.slice fa k fc) (.slice wa k wc) va FL AL ∧ MKd K' wr2 B N FL i 0 ∧ Olds K' wr2 AL)) (fun iv _ => k - (intOf iv).toNat)
      case atStart => exact ⟨0, K, rfl, Nat.zero_le _, HP0.out⟩
      case round =>
        obtain ⟨i, K1, rfl, hi, HA⟩ := hrel
        clear HP0
        obtain ⟨w1, hw1⟩ : ∃ y, y = wr := ⟨_, rfl⟩
        subst hw1
        have p0 := HA.out.1.c.1
        by_cases hlt2 : i < k
        · as_aux_lemma =>
          have hi' : (i : Int) < (k : Int) := by omega
          have hi0 : (0 : Int) ≤ (i : Int) := by omega
          obtain ⟨gf, hgf⟩ := HF.out (Nat.lt_of_le_of_lt (Nat.zero_le _) hlt2)
          subst hgf
          obtain ⟨s, hs⟩ : ∃ s, FL[i]? = some s := ⟨_, List.getElem?_eq_getElem (by rw [HNN.out]; exact hlt2)⟩
          have pl := HA.out.1.f.cell1 HNN.out hs
          have hsn := (HA.out.2.1 i s hs).1
          have hsi : (s.n : Int) ≤ 1048576 := by omega
          obtain ⟨M, hM⟩ : ∃ M, N + i = M := ⟨_, rfl⟩
          have hMi := wrapA hM (by have := HN.out; omega)
          have HM := hid hM
          have HMK : Hid (∀ w : World, Calls Try.prog 49 #[.int .i64 (IntKind.i64.wrap ((N : Int) + (i : Int)))] w fun e w' => e = .returned (.agg #[.string ⟨#[109, 97, 114, 107]⟩, .int .i64 (M : Int)]) ∧ Below w.heap.size w w') := fun w => by
            rw [IntWalk.i64_left, hMi]
            exact mark_any w (M : Int)
          have HS := hid hs
          have hwr := wrapS (j := i) (by omega)
          have HSP := hid (And.intro hlt2 hwr)
          clear hs hsn hM hwr
          go_wp2_with fail
          go_loopw [6] (fun kv wr3 => ∃ (kk : Nat) (K2 : Nat → Nat), kv = .int .i64 kk ∧ kk ≤ s.n ∧ Hid (LB K w K2 wr3 B bb N (.slice (some ⟨gf, 0, none⟩) k fc) (.slice wa k wc) va FL AL ∧ MKd K2 wr3 B N FL i kk ∧ Olds K2 wr3 AL)) (fun kv _ => s.n - (intOf kv).toNat)
          case atStart => exact ⟨0, K1, rfl, Nat.zero_le _, HA.out⟩
          case round =>
            obtain ⟨kk, K2, rfl, hkk, HI⟩ := hrel
            clear p0 pl HA
            obtain ⟨w2, hw2⟩ : ∃ y, y = wr := ⟨_, rfl⟩
            subst hw2
            have s0 : w2.cell? ⟨bb, 0, none⟩ = some (.slice (some ⟨gf, 0, none⟩) k fc) ∧ w2.cell? ⟨bb, 3, none⟩ = some (.int .i64 (N : Int)) ∧ w2.cell? ⟨gf, i, none⟩ = some (.slice s.oa s.n s.c) := ⟨HI.out.1.c.1, HI.out.1.c.2.2, HI.out.1.f.cell1 HNN.out HS.out⟩
            by_cases hkN : kk < s.n
            · have hkk' : (kk : Int) < (s.n : Int) := by omega
              have hkk0 : (0 : Int) ≤ (kk : Int) := by omega
              obtain ⟨g, hg⟩ : ∃ g, s.oa = some ⟨g, 0, none⟩ := by
                obtain ⟨g, h1, _⟩ := mark_step HI.out.1 HI.out.2.1 HI.out.2.2 HLA.out HS.out hkN
                exact ⟨g, h1⟩
              have s1 : ∀ i', (w2.drewN i').cell? ⟨bb, 0, none⟩ = some (.slice (some ⟨gf, 0, none⟩) k fc) ∧ (w2.drewN i').cell? ⟨bb, 3, none⟩ = some (.int .i64 (N : Int)) ∧ (w2.drewN i').cell? ⟨gf, i, none⟩ = some (.slice s.oa s.n s.c) := fun _ => s0
              rw [hg] at s0 s1
              have HG := hid hg
              have HKN := hid hkN
              clear hg hkN hkk
              go_wp2_with fail
              go_region_held3 (fun w' => w'.cell? ⟨bb, 0, none⟩ = some (.slice (some ⟨gf, 0, none⟩) k fc) ∧ w'.cell? ⟨bb, 3, none⟩ = some (.int .i64 (N : Int)) ∧ w'.cell? ⟨gf, i, none⟩ = some (.slice (some ⟨g, 0, none⟩) s.n s.c)) (first | with_reducible exact s0 | with_reducible exact s1 _ | with_reducible exact s7 | exact s9 | exact s0) (first
                | (go_at_call 49
                   refine (HMK.out _).mono ?_
                   rintro _ w7 ⟨rfl, hB0⟩
                   have hB7 : Below w2.heap.size w2 w7 := ⟨hB0.os, hB0.tape, hB0.output, hB0.size, hB0.block⟩
                   have m7 := Mv.of_below hB7 K2 (fun _ => 3)
                   obtain ⟨g', hg', hKg, ⟨u0, hu0⟩, ⟨u1, hu1⟩, hfz, L8, M8, O8⟩ := mark_step (HI.out.1.to m7 (fun _ h => h.elim)) (HI.out.2.1.below m7 (fun _ => id)) (HI.out.2.2.mv m7 (fun _ _ => id)) HLA.out HS.out HKN.out
                   rw [HG.out] at hg'
                   injection hg' with hg'
                   injection hg' with hg'
                   subst hg'
                   rw [HM.out] at L8 M8 O8
                   have s7 : w7.cell? ⟨bb, 0, none⟩ = some (.slice (some ⟨gf, 0, none⟩) k fc) ∧ w7.cell? ⟨bb, 3, none⟩ = some (.int .i64 (N : Int)) ∧ w7.cell? ⟨gf, i, none⟩ = some (.slice (some ⟨g, 0, none⟩) s.n s.c) := ⟨(World.cell?_of_block (a := ⟨bb, 0, none⟩) (hB7.block bb HI.out.1.blk.lt)).trans s0.1, (World.cell?_of_block (a := ⟨bb, 3, none⟩) (hB7.block bb HI.out.1.blk.lt)).trans s0.2.1, (World.cell?_of_block (a := ⟨gf, i, none⟩) (hB7.block gf (World.block_lt_of_cell? _ _ s0.2.2))).trans s0.2.2⟩
                   have s9 : ((w7.setCell ⟨g, kk * 2, none⟩ (.string ⟨#[109, 97, 114, 107]⟩)).setCell ⟨g, kk * 2 + 1, none⟩ (.int .i64 (M : Int))).cell? ⟨bb, 0, none⟩ = some (.slice (some ⟨gf, 0, none⟩) k fc) ∧ ((w7.setCell ⟨g, kk * 2, none⟩ (.string ⟨#[109, 97, 114, 107]⟩)).setCell ⟨g, kk * 2 + 1, none⟩ (.int .i64 (M : Int))).cell? ⟨bb, 3, none⟩ = some (.int .i64 (N : Int)) ∧ ((w7.setCell ⟨g, kk * 2, none⟩ (.string ⟨#[109, 97, 114, 107]⟩)).setCell ⟨g, kk * 2 + 1, none⟩ (.int .i64 (M : Int))).cell? ⟨gf, i, none⟩ = some (.slice (some ⟨g, 0, none⟩) s.n s.c) := ⟨L8.c.1, L8.c.2.2, by have := L8.f.cell1 HNN.out HS.out; rw [HG.out] at this; exact this⟩
                   have hf0 := hfz (kk * 2)
                   have hf1 := hfz (kk * 2 + 1)
                   have H8 := hid (And.intro L8 (And.intro M8 O8))
                   clear hB0 hB7 m7 hKg hfz L8 M8 O8))
              go_wp2
              go_roundw
              case rel => exact ⟨kk + 1, _, by first | rfl | (rw [wrapS (j := kk) (by omega)]; rfl), HKN.out, H8.out⟩
              case measure => first | exact meas6 rfl HKN.out | exact meas6 (wrapS (j := kk) (by omega)) HKN.out
            · obtain rfl : kk = s.n := by omega
              have H8 : Hid (LB K w K2 w2 B bb N (.slice (some ⟨gf, 0, none⟩) k fc) (.slice wa k wc) va FL AL ∧ MKd K2 w2 B N FL (i + 1) 0 ∧ Olds K2 w2 AL) := ⟨HI.out.1, HI.out.2.1.next HS.out, HI.out.2.2⟩
              obtain ⟨t0, t1, t2⟩ := s0
              clear HI
              go_wp2
              go_roundw
              case rel => exact ⟨i + 1, K2, by first | rfl | (rw [HSP.out.2]; rfl), HSP.out.1, H8.out⟩
              case measure => first | exact meas6 rfl HSP.out.1 | exact meas6 HSP.out.2 HSP.out.1
        · obtain rfl : i = k := by omega
          have HQ := hid (MKd.over HA.out.1 HA.out.2.1 HA.out.2.2 HLA.out HNN.out)
          clear HA HLA
          go_wp2_with fail
          clear p0
          go_loopw [7] (fun iv wr2 => ∃ (a : Nat) (K' : Nat → Nat) (va' : Value) (AL' : List Sl), iv = .int .i64 a ∧ a ≤ i ∧ Hid (PQ K w K' wr2 B bb N (.slice fa i fc) (.slice wa i wc) va' FL AL' a)) (fun iv _ => i - (intOf iv).toNat)
          case atStart => exact ⟨0, K1, va, AL, rfl, Nat.zero_le _, HQ.out⟩
          case round =>
            obtain ⟨a, K2, va2, AL2, rfl, ha, HB⟩ := hrel
            clear HQ
            obtain ⟨w2, hw2⟩ : ∃ y, y = wr := ⟨_, rfl⟩
            subst hw2
            have p0 := HB.out.lb.c.1
            by_cases hlt3 : a < i
            · as_aux_lemma =>
              have ha' : (a : Int) < (i : Int) := by omega
              have ha0 : (0 : Int) ≤ (a : Int) := by omega
              obtain ⟨gf, hgf⟩ := HF.out (Nat.lt_of_le_of_lt (Nat.zero_le _) hlt3)
              subst hgf
              obtain ⟨s, hs⟩ : ∃ s, FL[a]? = some s := ⟨_, List.getElem?_eq_getElem (by rw [HNN.out]; exact hlt3)⟩
              have pl := HB.out.lb.f.cell1 HNN.out hs
              obtain ⟨hsn, hP0⟩ := HB.out.begin hs
              obtain ⟨M, hM⟩ : ∃ M, N + a = M := ⟨_, rfl⟩
              have hM10 : M ≤ 10000000000 := by have := HN.out; omega
              have hMi := wrapA hM (by omega)
              have HM := hid (And.intro hM hM10)
              have hwr := wrapS (j := a) (by omega)
              have HSP := hid (And.intro hlt3 hwr)
              have HSN := hid hsn
              have HP0 := hid hP0
              clear hs hsn hM hM10 hwr hP0 HB
              go_wp2_with fail
              clear p0 pl
              go_loopw [8, 9] (fun xv kv wr3 => ∃ (kk : Nat) (K3 : Nat → Nat) (va' : Value) (AL' : List Sl) (x : Sl), xv = .slice x.oa x.n x.c ∧ kv = .int .i64 kk ∧ kk ≤ 6 ∧ Hid (x.n = s.n + kk ∧ PB K w K3 wr3 B bb N (.slice (some ⟨gf, 0, none⟩) i fc) (.slice wa i wc) va' FL AL' a kk x)) (fun _ kv _ => 6 - (intOf kv).toNat)
              case atStart => exact ⟨0, K2, va2, AL2, s, rfl, rfl, Nat.zero_le _, rfl, HP0.out⟩
              case round =>
                obtain ⟨kk, K3, va3, AL3, x, rfl, rfl, hkk, HI⟩ := hrel
                clear HP0
                obtain ⟨w3, hw3⟩ : ∃ y, y = wr := ⟨_, rfl⟩
                subst hw3
                by_cases hk6 : kk < 6
                · have hkk' : (kk : Int) < 6 := by omega
                  obtain ⟨ao, ac, hva3, _, _⟩ := HI.out.2.lb.a.form
                  have hla := HI.out.2.la
                  obtain ⟨TT, hTT⟩ : ∃ TT, AL3.length = TT := ⟨_, rfl⟩
                  rw [hTT] at hva3
                  subst hva3
                  have c2 := HI.out.2.lb.c.2.1
                  have hx1 : x.n ≤ 1048582 := by have := HI.out.1; have := HSN.out; omega
                  obtain ⟨S4, hS4⟩ : ∃ S4, w3.heap.size = S4 := ⟨_, rfl⟩
                  obtain ⟨w4, hw4⟩ : ∃ w4, w3.alloc (.cells #[.slice x.oa x.n x.c] 109) = w4 := ⟨_, rfl⟩
                  obtain ⟨o5, c5, w5, w6, K6, r5, z5, f5, hw6, P6⟩ := HI.out.2.put hx1 hk6 (by have := HM.out; omega) hS4 hw4
                  rw [hTT] at r5 hw6 P6
                  have c3 := P6.lb.c.2.2
                  have HR5 := hid r5
                  have HP6 := hid P6
                  have hbs := fun w => bls41 w x
                  have hbs2 := fun w => bls109 w ⟨#[109, 97, 114, 107]⟩ (M : Int)
                  have HNX := hid (And.intro HI.out.1 hx1)
                  have HK6 := hid hk6
                  clear r5 P6 HI hla hTT hx1 hkk hk6
                  go_wp2_with (at_builtin; refine Hid.out ?_)
                  refine (show Hid _ from ?_)
                  refine wpList_app rfl _ _ 41 rfl _ _ _ _ rfl rfl (HR5.out _) ?_
                  clear hw4 c2 hbs
                  go_wp2_with fail
                  clear hw6 z5 f5
                  refine (mark_any _ _).mono ?_
                  rintro _ w7 ⟨rfl, hB0⟩
                  obtain ⟨S8, hS8⟩ : ∃ S8, w7.heap.size = S8 := ⟨_, rfl⟩
                  obtain ⟨w8, hw8⟩ : ∃ w8, w7.alloc (.cells #[.string ⟨#[109, 97, 114, 107]⟩, .int .i64 (M : Int)] 32) = w8 := ⟨_, rfl⟩
                  obtain ⟨g9, c9, w9, K9, r9, P9⟩ := (HP6.out.below (Mv.of_below hB0 K6 (fun _ => 3)) (fun _ => id)).grow HM.out.1 HNX.out.2 hS8 hw8
                  have HR9 := hid r9
                  have HP9 := hid P9
                  clear r9 P9 hB0 HP6 c3
                  go_wp2_with (at_builtin; refine Hid.out ?_)
                  refine (show Hid _ from ?_)
                  refine wpList_app rfl _ _ 109 rfl _ _ _ _ rfl rfl (HR9.out _) ?_
                  clear hw8 hbs2
                  go_wp2_with fail
                  go_roundw
                  case rel => exact ⟨kk + 1, K9, _, _, _, rfl, by first | rfl | (rw [wrapS (j := kk) (by have := HK6.out; omega)]; rfl), HK6.out, (by have := HNX.out.1; show x.n + 1 = _; omega), HP9.out⟩
                  case measure => first | exact meas6 rfl HK6.out | exact meas6 (wrapS (j := kk) (by have := HK6.out; omega)) HK6.out
                · obtain rfl : kk = 6 := by omega
                  have HR := hid HI.out.2.done
                  clear HI
                  go_wp2
                  go_roundw
                  case rel => exact ⟨a + 1, K3, _, _, by first | rfl | (rw [HSP.out.2]; rfl), HSP.out.1, HR.out⟩
                  case measure => first | exact meas6 rfl HSP.out.1 | exact meas6 HSP.out.2 HSP.out.1
            · obtain rfl : a = i := by omega
              obtain ⟨M, hM⟩ : ∃ M, N + a = M := ⟨_, rfl⟩
              have hM10 : M ≤ 10000000000 := by have := HN.out; omega
              have hMi := wrapA hM (by omega)
              obtain ⟨ao, ac, hva2, _, hag⟩ := HB.out.lb.a.form
              have hla := HB.out.la
              rw [hM] at hla
              obtain ⟨TT, hTT⟩ : ∃ TT, AL2.length = TT := ⟨_, rfl⟩
              rw [hTT] at hva2 hag
              subst hva2
              have c3 := HB.out.lb.c.2.2
              have fz := HB.out.lb.fz
              obtain ⟨w3, hw3⟩ : ∃ w3, ((w2.setCell ⟨bb, 3, none⟩ (.int .i64 (M : Int))).setCell ⟨bb, 0, none⟩ (.slice none 0 0)).setCell ⟨bb, 1, none⟩ (.slice none 0 0) = w3 := ⟨_, rfl⟩
              have hov := HB.out.over hM
              rw [hw3] at hov
              have HOV := hid hov
              have HT := hid (And.intro hTT (And.intro hla hag))
              have HMM0 := hid hM
              have HM10 := hid hM10
              have c1 : w2.cell? ⟨bb, 1, none⟩ = some (.slice wa a wc) := by unfold World.cell?; rw [HB.out.lb.blk.at_]; rfl
              have hTTi : (TT : Int) ≤ 100000000000 := by omega
              clear HB hov hM hla hTT hag hM10 HF HN HNN
              go_wp2_with fail
              go_cut [125] (fun _ wx => Hid (wx = (w2.setCell ⟨bb, 3, none⟩ (.int .i64 (M : Int))).drew))
              case first =>
                go_region
                all_goals (
                  go_wp2_with fail
                  go_meet
                  exact rfl)
              case rest =>
                have hwx := hcut.out
                subst hwx
                clear hcut
                go_wp2_with fail
                clear hw3 p0 c1 c3 fz
                go_loopw [10] (fun iv wr2 => ∃ b : Nat, iv = .int .i64 b ∧ b ≤ TT ∧ Hid (Below w3.heap.size w3 wr2)) (fun iv _ => TT - (intOf iv).toNat)
                case atStart => exact ⟨0, rfl, Nat.zero_le _, (Below.refl _ _).drew⟩
                case round =>
                  obtain ⟨b, rfl, hb, HBE⟩ := hrel
                  obtain ⟨w4, hw4⟩ : ∃ y, y = wr := ⟨_, rfl⟩
                  subst hw4
                  have HB4 := hid (HOV.out.1.mv (Mv.of_below HBE.out K2 (fun _ => 3)) (fun _ h => h.elim))
                  have q2 := HB4.out.c.2.2.1
                  by_cases hlt4 : b < TT
                  · as_aux_lemma =>
                    have hb' : (b : Int) < (TT : Int) := by omega
                    have hb0 : (0 : Int) ≤ (b : Int) := by omega
                    obtain ⟨ga, hga⟩ := HT.out.2.2 (Nat.lt_of_le_of_lt (Nat.zero_le _) hlt4)
                    subst hga
                    obtain ⟨s, hs⟩ : ∃ s, AL2[b]? = some s := ⟨_, List.getElem?_eq_getElem (by rw [HT.out.1]; exact hlt4)⟩
                    have pl := HB4.out.a.cell1 HT.out.1 hs
                    obtain ⟨hsn, hme⟩ := HB4.out.all b s hs
                    have hsi : (s.n : Int) ≤ 1048582 := by omega
                    obtain ⟨D, hD⟩ : ∃ D, b / 6 = D := ⟨_, rfl⟩
                    have HS := hid hs
                    have HSP := hid (And.intro hlt4 (wrapS (j := b) (by omega)))
                    have hq6 : Int.tdiv (b : Int) 6 = (D : Int) := by rw [← hD]; exact (Int.ofNat_tdiv b 6)
                    have HD := hid hD
                    have HMK : Hid (∀ w : World, Calls Try.prog 49 #[.int .i64 (IntKind.i64.wrap (D : Int))] w fun e w' => e = .returned (.agg #[.string ⟨#[109, 97, 114, 107]⟩, .int .i64 (D : Int)]) ∧ Below w.heap.size w w') := fun w => by
                      rw [IntWalk.i64_left, show wrap64 (D : Int) = (D : Int) by unfold wrap64; omega]
                      exact mark_any w (D : Int)
                    clear hs hsn hme hD hb
                    go_wp2_with fail
                    clear q2 pl
                    go_loopw [11] (fun cv wr3 => ∃ c : Nat, cv = .int .i64 c ∧ c ≤ s.n ∧ Hid (Below w3.heap.size w3 wr3)) (fun cv _ => s.n - (intOf cv).toNat)
                    case atStart => exact ⟨0, rfl, Nat.zero_le _, HBE.out⟩
                    case round =>
                      obtain ⟨c, rfl, hc, HBF⟩ := hrel
                      obtain ⟨w5, hw5⟩ : ∃ y, y = wr := ⟨_, rfl⟩
                      subst hw5
                      have HB5 := hid (HOV.out.1.mv (Mv.of_below HBF.out K2 (fun _ => 3)) (fun _ h => h.elim))
                      have q2 := HB5.out.c.2.2.1
                      have pl := HB5.out.a.cell1 HT.out.1 HS.out
                      by_cases hcl : c < s.n
                      · have hc' : (c : Int) < (s.n : Int) := by omega
                        have hc0 : (0 : Int) ≤ (c : Int) := by omega
                        obtain ⟨_, oa, cc, hsv, hat⟩ := HB5.out.all b s HS.out
                        obtain ⟨g, hg, _, hgl, hka⟩ := hat (Nat.lt_of_le_of_lt (Nat.zero_le _) hcl)
                        injection hsv with a1 _ _
                        rw [HD.out] at hka
                        obtain ⟨k0, k1⟩ := hka c hcl
                        rw [a1, hg] at pl
                        have s0 : w5.cell? ⟨bb, 2, none⟩ = some (.slice (some ⟨ga, 0, none⟩) TT ac) ∧ w5.cell? ⟨ga, b, none⟩ = some (.slice (some ⟨g, 0, none⟩) s.n s.c) ∧ w5.cell? ⟨g, c * 2, none⟩ = some (.string ⟨#[109, 97, 114, 107]⟩) ∧ w5.cell? ⟨g, c * 2 + 1, none⟩ = some (.int .i64 (D : Int)) := ⟨q2, pl, k0, k1⟩
                        have s1 : ∀ i', (w5.drewN i').cell? ⟨bb, 2, none⟩ = some (.slice (some ⟨ga, 0, none⟩) TT ac) ∧ (w5.drewN i').cell? ⟨ga, b, none⟩ = some (.slice (some ⟨g, 0, none⟩) s.n s.c) ∧ (w5.drewN i').cell? ⟨g, c * 2, none⟩ = some (.string ⟨#[109, 97, 114, 107]⟩) ∧ (w5.drewN i').cell? ⟨g, c * 2 + 1, none⟩ = some (.int .i64 (D : Int)) := fun _ => s0
                        have hq : ∀ w, (binOp .neq 32 (.agg #[.string ⟨#[109, 97, 114, 107]⟩, .int .i64 (D : Int)]) (.agg #[.string ⟨#[109, 97, 114, 107]⟩, .int .i64 (D : Int)])).run Try.prog w = .ok (.bool false) w := fun w => by
                          have := neq32 w (mkK D) (mkK D)
                          rw [(keyEq_is _ _).2 rfl] at this
                          exact this
                        have hgd := fun w op x y xs ys => guard32n w op x y xs ys
                        have HCL := hid hcl
                        clear hat hg hgl hka a1 k0 k1 hcl hc
                        go_wp2_with fail
                        go_region_held3 (fun w' => w'.cell? ⟨bb, 2, none⟩ = some (.slice (some ⟨ga, 0, none⟩) TT ac) ∧ w'.cell? ⟨ga, b, none⟩ = some (.slice (some ⟨g, 0, none⟩) s.n s.c) ∧ w'.cell? ⟨g, c * 2, none⟩ = some (.string ⟨#[109, 97, 114, 107]⟩) ∧ w'.cell? ⟨g, c * 2 + 1, none⟩ = some (.int .i64 (D : Int))) (first | with_reducible exact s0 | with_reducible exact s1 _ | with_reducible exact s7 | exact s0) (first
                          | (go_at_call 49
                             refine (HMK.out _).mono ?_
                             rintro _ w7 ⟨rfl, hB0⟩
                             have hB7 : Below w5.heap.size w5 w7 := ⟨hB0.os, hB0.tape, hB0.output, hB0.size, hB0.block⟩
                             have HB7 : Hid (Below w3.heap.size w3 w7) := HBF.out.trans (hB7.mono HBF.out.size)
                             have s7 : w7.cell? ⟨bb, 2, none⟩ = some (.slice (some ⟨ga, 0, none⟩) TT ac) ∧ w7.cell? ⟨ga, b, none⟩ = some (.slice (some ⟨g, 0, none⟩) s.n s.c) ∧ w7.cell? ⟨g, c * 2, none⟩ = some (.string ⟨#[109, 97, 114, 107]⟩) ∧ w7.cell? ⟨g, c * 2 + 1, none⟩ = some (.int .i64 (D : Int)) := ⟨(World.cell?_of_block (a := ⟨bb, 2, none⟩) (hB7.block bb (World.block_lt_of_cell? _ _ s0.1))).trans s0.1, (World.cell?_of_block (a := ⟨ga, b, none⟩) (hB7.block ga (World.block_lt_of_cell? _ _ s0.2.1))).trans s0.2.1, (World.cell?_of_block (a := ⟨g, c * 2, none⟩) (hB7.block g (World.block_lt_of_cell? _ _ s0.2.2.1))).trans s0.2.2.1, (World.cell?_of_block (a := ⟨g, c * 2 + 1, none⟩) (hB7.block g (World.block_lt_of_cell? _ _ s0.2.2.2))).trans s0.2.2.2⟩
                             clear hB0 hB7))
                        go_wp2
                        go_roundw
                        case rel => exact ⟨c + 1, by first | rfl | (rw [wrapS (j := c) (by omega)]; rfl), HCL.out, HB7.out⟩
                        case measure => first | exact meas6 rfl HCL.out | exact meas6 (wrapS (j := c) (by omega)) HCL.out
                      · obtain rfl : c = s.n := by omega
                        clear HB5
                        go_wp2
                        go_roundw
                        case rel => exact ⟨b + 1, by first | rfl | (rw [HSP.out.2]; rfl), HSP.out.1, HBF.out⟩
                        case measure => first | exact meas6 rfl HSP.out.1 | exact meas6 HSP.out.2 HSP.out.1
                  · obtain rfl : b = TT := by omega
                    have HE : Hid (∃ K' va' AL', BK K' w4 B bb M (.slice none 0 0) (.slice none 0 0) va' [] [] AL' ∧ Mv TS3 w w4 K K') := ⟨_, _, _, HB4.out, HOV.out.2.trans ((Mv.of_below HBE.out K2 (fun _ => 3)).mono (fun _ h => h.elim))⟩
                    have HMM := hid HMM0.out
                    clear HB4 HOV HBE
                    go_wp2
                    go_ret
                    have hE := HE.out
                    rw [← HMM.out] at hE
                    exact ⟨rfl, hE⟩
end Go.Proofs.Ytkkamilmjaochaa
