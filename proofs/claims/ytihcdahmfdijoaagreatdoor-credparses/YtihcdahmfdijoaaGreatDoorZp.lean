/- CredParses: its walk. -/
import Derived.Test.YtihcdahmfdijoaaGreatDoorZi
import Derived.Test.YtihcdahmfdijoaaGreatDoorZd
import Derived.Test.YtihcdahmfdijoaaGreatDoorCv
import Derived.Test.YtihcdahmfdijoaaGreatDoorNb
namespace Go.Proofs.YtihcdahmfdijoaaGreatDoor
open Go.RowKit
theorem psP_small (f : Int) (b : List UInt8) : (psP f b).1.groups.length ≤ 1000 := by
  by_cases h : (psP f b).2 = 0
  · have := (psP_ok h).2.1.2.2.2.2.1
    omega
  · unfold psP at h ⊢
    split
    · simp [nulS]
    · rename_i h1
      rw [if_neg h1] at h
      split
      · simp [nulS]
      · rename_i s hs
        rw [hs] at h
        simp at h
theorem pmP_small (f : Int) (b : List UInt8) : (pmP f b).1.sys.groups.length ≤ 1000 := by
  by_cases h : (pmP f b).2 = 0
  · have := (pmP_ok h).2.1.2.2.2.2.2.2.2.1
    omega
  · unfold pmP at h ⊢
    split
    · simp [nulM, nulS]
    · rename_i h1
      rw [if_neg h1] at h
      split
      · simp [nulM, nulS]
      · rename_i s hs
        rw [hs] at h
        simp at h
theorem bk_here {w w' : World} {g : Nat} {xs : List Value} {t : TypeId} (h : w.alloc (.cells xs.toArray t) = w') (hg : w.heap.size = g) : Bk w' g xs t := by
  rw [← h, ← hg]
  exact Bk.new _ _ _
theorem low_here {w w' : World} {ob : Obj} (h : w.alloc ob = w') : Below w.heap.size w w' := by
  rw [← h]
  exact below_new _ _
theorem OwnI.idle {w w' : World} {b : Nat} {sl : Value} {gs : List Int} (h : OwnI w b sl gs) (hB : Below w.heap.size w w') : OwnI w' b sl gs := h.of_blocks (fun g hg => hB.block g (h.lt g hg).2)
theorem asked_at {w : World} {qa : Nat} {fa fb : Int} {la lb : List UInt8} (h : Bk w qa [.int .i64 fa, .string ⟨la.toArray⟩, .int .i64 fa, .string ⟨la.toArray⟩, .int .i64 fb, .string ⟨lb.toArray⟩, .int .i64 fa, .string ⟨la.toArray⟩] 23) (j : Nat) (hj : j < 4) :
    ∃ f l, (f = fa ∧ l = la ∨ f = fb ∧ l = lb) ∧ w.cell? ⟨qa, j * 2, none⟩ = some (.int .i64 f) ∧ w.cell? ⟨qa, j * 2 + 1, none⟩ = some (.string ⟨l.toArray⟩) := by
  rcases (by omega : j = 0 ∨ j = 1 ∨ j = 2 ∨ j = 3) with rfl | rfl | rfl | rfl
  · exact ⟨fa, la, .inl ⟨rfl, rfl⟩, h.cell 0 rfl, h.cell 1 rfl⟩
  · exact ⟨fa, la, .inl ⟨rfl, rfl⟩, h.cell 2 rfl, h.cell 3 rfl⟩
  · exact ⟨fb, lb, .inr ⟨rfl, rfl⟩, h.cell 4 rfl, h.cell 5 rfl⟩
  · exact ⟨fa, la, .inl ⟨rfl, rfl⟩, h.cell 6 rfl, h.cell 7 rfl⟩
theorem two_more (X : List One2) (x y : One2) (n : Nat) (h : X.length = n) (f : One2 → Value) : ((X ++ [x] ++ [y]).take n).map f ++ [f x, f y] = ((X ++ [x] ++ [y]).take (n + 2)).map f := by
  subst h
  rw [List.take_of_length_le (i := X.length + 2) (by simp), List.append_assoc, List.take_left]
  simp
theorem grown_kept {w w' : World} {o : Option Nat} {q c z : Nat} (hp : (o = some q ∧ w.grownBy w' (some q)) ∨ (q = w.heap.size ∧ w.grownBy w' none)) (ho : ∀ g, o = some g → g < z) (hc : z ≤ c) (hl : c < w.heap.size) : w'.heap[c]? = w.heap[c]? := by
  rcases hp with ⟨e, hg⟩ | ⟨_, hg⟩
  · exact hg.block c hl (fun e2 => by cases e2; have := ho _ e; omega)
  · exact hg.block c hl (by simp)
set_option maxRecDepth 8000 in
set_option maxHeartbeats 4000000 in
theorem credParses_any (fa fb : Int) (la lb : List UInt8) (w : World) (hT : ErrT w) :
    Calls Tryz.prog 3 #[.agg #[.int .i64 fa, .string ⟨la.toArray⟩], .agg #[.int .i64 fb, .string ⟨lb.toArray⟩]] w fun e w' => e = .returned (.bool true) ∧ Below w.heap.size w w' := by
  obtain ⟨inf2, hi2⟩ := info_sl
  have HI2 := hid hi2
  clear hi2
  obtain ⟨w2, hw2⟩ : ∃ x, (w.alloc (.cells #[.int .i64 fa, .string ⟨la.toArray⟩] 23)).alloc (.cells #[.int .i64 fb, .string ⟨lb.toArray⟩] 23) = x := ⟨_, rfl⟩
  have h2 := two_start [.int .i64 fa, .string ⟨la.toArray⟩] [.int .i64 fb, .string ⟨lb.toArray⟩] 23 23 w w2 hw2.symm
  have hka : Bk w2 w.heap.size [.int .i64 fa, .string ⟨la.toArray⟩] 23 := by rw [← hw2]; exact (Bk.new w [.int .i64 fa, .string ⟨la.toArray⟩] 23).below (below_new _ _) (by simp)
  obtain ⟨B, hBB⟩ : ∃ B, w.heap.size = B := ⟨_, rfl⟩
  have HBB := hid hBB
  have HX2 : Hid (Bk w2 B [.int .i64 fa, .string ⟨la.toArray⟩] 23 ∧ Bk w2 (B + 1) [.int .i64 fb, .string ⟨lb.toArray⟩] 23 ∧ Below w.heap.size w w2) := by
    show _ ∧ _ ∧ _
    rw [← HBB.out]
    exact ⟨hka, h2.1, h2.2.1⟩
  have HA := hid (fun w => addsUp_any la.length lb.length w (by omega) (by omega))
  obtain ⟨X5, hX5⟩ : ∃ x, addF la.length lb.length = x := ⟨_, rfl⟩
  rw [hX5] at HA
  have HW : Hid (X5 ≤ 2147483647 → la.length ≤ 2147483647 ∧ lb.length ≤ 2147483647) := fun h => by
    have e1 := addF_le (a := la.length) (b := lb.length) (by rw [hX5]; exact h)
    omega
  have HT := hid hT
  have a1 := HX2.out.1.cell 1 rfl
  have b1 := HX2.out.2.1.cell 1 rfl
  clear hX5 hT h2 hka
  go_enter Tryz.func3, Tryz.ntmps3
  go_wp2_with fail
  refine (HA.out _).mono ?_
  rintro e w3 ⟨rfl, hw3⟩
  subst hw3
  clear hw2 HA a1 b1
  by_cases hb : 2147483647 < X5
  · go_wp2
    go_ret
    exact ⟨rfl, HX2.out.2.2⟩
  · have HLE := hid (HW.out (by omega))
    have HAW := hid (awake_any w3 (HT.out.below HX2.out.2.2))
    clear HW
    go_wp2_with fail
    refine HAW.out.mono ?_
    rintro e w4 ⟨rfl, hB4⟩
    clear HAW hb
    have k1 := HX2.out.1.below hB4 HX2.out.1.lt
    have k2 := HX2.out.2.1.below hB4 HX2.out.2.1.lt
    have c0 := k1.cell 0 rfl
    have c1 := k1.cell 1 rfl
    have d0 := k2.cell 0 rfl
    have d1 := k2.cell 1 rfl
    obtain ⟨qa, hqa⟩ : ∃ g, w4.heap.size = g := ⟨_, rfl⟩
    obtain ⟨w5, hw5⟩ : ∃ x, w4.alloc (.cells #[.int .i64 fa, .string ⟨la.toArray⟩, .int .i64 fa, .string ⟨la.toArray⟩, .int .i64 fb, .string ⟨lb.toArray⟩, .int .i64 fa, .string ⟨la.toArray⟩] 23) = x := ⟨_, rfl⟩
    have HQ5 : Hid (Bk w5 qa [.int .i64 fa, .string ⟨la.toArray⟩, .int .i64 fa, .string ⟨la.toArray⟩, .int .i64 fb, .string ⟨lb.toArray⟩, .int .i64 fa, .string ⟨la.toArray⟩] 23) := bk_here hw5 hqa
    have HB5 : Hid (Below w.heap.size w w5) := (HX2.out.2.2.trans (hB4.mono HX2.out.2.2.size)).trans ((low_here hw5).mono (Nat.le_trans HX2.out.2.2.size hB4.size))
    obtain ⟨D, hD⟩ : ∃ D, w5.heap.size = D := ⟨_, rfl⟩
    have HD := hid hD
    clear k1 k2 hB4 HX2 hD
    go_wp2_with fail
    go_loopw [7, 8, 9] (fun l v n wr => ∃ (j cl cw : Nat) (ol ow : Option Addr) (X : List One2), n = .int .i64 (j : Int) ∧ l = .slice ol (2 * j) cl ∧ v = .slice ow (2 * j) cw ∧ j ≤ 4 ∧ Hid (X.length = 2 * j) ∧ Hid (∃ K, Ga wr D X (2 * j) (2 * j) (.slice ol (2 * j) cl) (.slice ow (2 * j) cw) K) ∧ Hid (Below D w5 wr)) (fun _ _ n _ => 4 - (intOf n).toNat)
    case atStart => exact ⟨0, 0, 0, none, none, [], rfl, rfl, rfl, by omega, rfl, ⟨_, Ga.start _ D (by rw [← HD.out]; exact Nat.le_refl _)⟩, Below.refl _ _⟩
    case round =>
      obtain ⟨j, cl, cw, ol, ow, X, rfl, rfl, rfl, hj, HXL, HGA, HBR⟩ := hrel
      clear hw5 hqa c0 c1 d0 d1
      by_cases hlt : j < 4
      · have HJ := hid hlt
        have j0 : (0 : Int) ≤ (j : Int) := by omega
        have j1 : (j : Int) < 4 := by omega
        have hqD : qa < D := by rw [← HD.out]; exact HQ5.out.lt
        obtain ⟨f, l, hfl, y0, y1⟩ := asked_at (HQ5.out.below HBR.out hqD) j hlt
        have HFL : Hid (∀ w', Below wr.heap.size wr w' → w'.cell? ⟨qa, j * 2, none⟩ = some (.int .i64 f) ∧ w'.cell? ⟨qa, j * 2 + 1, none⟩ = some (.string ⟨l.toArray⟩)) := fun w' hB => by
          have hq2 : qa < wr.heap.size := (HQ5.out.below HBR.out hqD).lt
          exact ⟨(cellB (hB.block qa hq2) _).trans y0, (cellB (hB.block qa hq2) _).trans y1⟩
        have HLn : Hid (l.length ≤ 281474976710656) := by
          have := HLE.out
          rcases hfl with ⟨_, rfl⟩ | ⟨_, rfl⟩ <;> show _ ≤ _ <;> omega
        have HTR : Hid (ErrT wr) := HT.out.below (HB5.out.trans (HBR.out.mono (by rw [← HD.out]; exact HB5.out.size)))
        have hs1 := psP_small f l
        have hs2 := pmP_small f l
        have HP1 : Hid (∀ w, ErrT w → Calls Tryz.prog 7 #[.agg #[.int .i64 f, .string ⟨l.toArray⟩]] w (SysPost (psP f l) w)) := fun w h => parseSys_any f l w h HLn.out
        have HP2 : Hid (∀ w, Calls Tryz.prog 8 #[.agg #[.int .i64 f, .string ⟨l.toArray⟩]] w (SysPost (psP f l) w)) := fun w => dparseSys_any f l w
        have HP3 : Hid (∀ w, ErrT w → Calls Tryz.prog 9 #[.agg #[.int .i64 f, .string ⟨l.toArray⟩]] w (MarkPost (pmP f l) w)) := fun w h => parseMark_any f l w h HLn.out
        have HP4 : Hid (∀ w, Calls Tryz.prog 10 #[.agg #[.int .i64 f, .string ⟨l.toArray⟩]] w (MarkPost (pmP f l) w)) := fun w => dparseMark_any f l w
        generalize psP f l = rs at hs1 HP1 HP2
        generalize pmP f l = rm at hs2 HP3 HP4
        obtain ⟨⟨st, mc, us, gr, gs⟩, es⟩ := rs
        obtain ⟨⟨i, q, u, ⟨st2, mc2, us2, gr2, gs2⟩⟩, em⟩ := rm
        have HSM : Hid (gs.length ≤ 1000 ∧ gs2.length ≤ 1000) := ⟨hs1, hs2⟩
        clear hs1 hs2 hfl hqD HLn
        go_wp2_with fail
        refine (HP1.out _ HTR.out).mono ?_
        rintro e w6 ⟨oa, ca, rfl, o6, hB6⟩
        have HO6 := hid o6
        obtain ⟨c1, hc1⟩ : ∃ g, w6.heap.size = g := ⟨_, rfl⟩
        obtain ⟨w7, hw7⟩ : ∃ x, w6.alloc (.cells #[.int .i64 st, .string ⟨mc.toArray⟩, .int .i64 us, .int .i64 gr, .slice oa gs.length ca] 30) = x := ⟨_, rfl⟩
        have HC17 : Hid (Bk w7 c1 [.int .i64 st, .string ⟨mc.toArray⟩, .int .i64 us, .int .i64 gr, .slice oa gs.length ca] 30) := bk_here hw7 hc1
        have HB7 : Hid (Below wr.heap.size wr w7) := hB6.trans ((low_here hw7).mono hB6.size)
        have HO7 := hid (HO6.out.idle (low_here hw7))
        obtain ⟨x0, x1⟩ := HFL.out _ HB7.out
        clear o6 hB6 y0 y1 HO6 HP1
        go_wp2_with fail
        refine (HP2.out _).mono ?_
        rintro e w8 ⟨ob, cb, rfl, o8, hB8⟩
        have HO8 := hid o8
        clear hw7 hc1 x0 x1 HP2 o8
        obtain ⟨c2, hc2⟩ : ∃ g, w8.heap.size = g := ⟨_, rfl⟩
        obtain ⟨w9, hw9⟩ : ∃ x, w8.alloc (.cells #[.int .i64 st, .string ⟨mc.toArray⟩, .int .i64 us, .int .i64 gr, .slice ob gs.length cb] 30) = x := ⟨_, rfl⟩
        have hB79 : Below w7.heap.size w7 w9 := hB8.trans ((low_here hw9).mono hB8.size)
        have HC29 : Hid (Bk w9 c2 [.int .i64 st, .string ⟨mc.toArray⟩, .int .i64 us, .int .i64 gr, .slice ob gs.length cb] 30) := bk_here hw9 hc2
        have HC19 := hid (HC17.out.below hB79 HC17.out.lt)
        have HB9 : Hid (Below wr.heap.size wr w9) := HB7.out.trans (hB79.mono HB7.out.size)
        have HM1 : Hid (∃ x, One2.l x = .slice oa gs.length ca ∧ One2.w x = .slice ob gs.length cb ∧ ∃ K, Ga w9 D (X ++ [x]) (2 * j) (2 * j) (.slice ol (2 * j) cl) (.slice ow (2 * j) cw) K) := by
          obtain ⟨K, hG⟩ := HGA.out
          have o1 : OwnI w9 wr.heap.size (.slice oa gs.length ca) gs := HO7.out.idle hB79
          have o2 : OwnI w9 w7.heap.size (.slice ob gs.length cb) gs := HO8.out.idle (low_here hw9)
          obtain ⟨x, K', e1, e2, h3⟩ := hG.more HB9.out o1 o2 (Nat.le_refl _) HB7.out.size (fun g g2 h1 h2 => by have q1 := (HO7.out.lt g h1).2; have q2 := (o2.lt g2 h2).1; omega) HSM.out.1 (by rw [HXL.out]; exact Nat.le_refl _) (by rw [HXL.out]; exact Nat.le_refl _)
          exact ⟨x, e1, e2, K', h3⟩
        have HOA := hid (HO7.out.idle hB79)
        have HOB := hid (HO8.out.idle (low_here hw9))
        have HZ2 : Hid (wr.heap.size ≤ c2) := by rw [← hc2]; exact Nat.le_trans HB7.out.size hB8.size
        obtain ⟨x, e1, e2, HG9⟩ := HM1.out
        have HE1 := hid (And.intro e1 e2)
        have HT9 : Hid (ErrT w9) := HTR.out.below HB9.out
        obtain ⟨x0, x1⟩ := HFL.out _ HB9.out
        clear hB8 hB79 HM1 e1 e2 HC17 HO7 HO8 HB7
        go_wp2_with fail
        refine (HP3.out _ HT9.out).mono ?_
        rintro e w10 ⟨oc, cc, rfl, o10, hB10⟩
        have HO10 := hid o10
        clear hw9 hc2 x0 x1 HP3 o10
        obtain ⟨c3, hc3⟩ : ∃ g, w10.heap.size = g := ⟨_, rfl⟩
        obtain ⟨w11, hw11⟩ : ∃ x, w10.alloc (.cells #[.int .i64 i, .int .i64 q, .int .i64 u, .int .i64 st2, .string ⟨mc2.toArray⟩, .int .i64 us2, .int .i64 gr2, .slice oc gs2.length cc] 35) = x := ⟨_, rfl⟩
        have hB911 : Below w9.heap.size w9 w11 := hB10.trans ((low_here hw11).mono hB10.size)
        have HC311 : Hid (Bk w11 c3 [.int .i64 i, .int .i64 q, .int .i64 u, .int .i64 st2, .string ⟨mc2.toArray⟩, .int .i64 us2, .int .i64 gr2, .slice oc gs2.length cc] 35) := bk_here hw11 hc3
        have HC111 := hid (HC19.out.below hB911 HC19.out.lt)
        have HC211 := hid (HC29.out.below hB911 HC29.out.lt)
        have HB11 : Hid (Below w9.heap.size w9 w11) := hB911
        have HO11 := hid (HO10.out.idle (low_here hw11))
        obtain ⟨x0, x1⟩ := HFL.out _ (HB9.out.trans (hB911.mono HB9.out.size))
        clear hB10 hB911 HC19 HC29 HO10
        go_wp2_with fail
        refine (HP4.out _).mono ?_
        rintro e w12 ⟨od, cd, rfl, o12, hB12⟩
        have HO12 := hid o12
        clear hw11 hc3 x0 x1 HP4 o12
        obtain ⟨c4, hc4⟩ : ∃ g, w12.heap.size = g := ⟨_, rfl⟩
        obtain ⟨w13, hw13⟩ : ∃ x, w12.alloc (.cells #[.int .i64 i, .int .i64 q, .int .i64 u, .int .i64 st2, .string ⟨mc2.toArray⟩, .int .i64 us2, .int .i64 gr2, .slice od gs2.length cd] 35) = x := ⟨_, rfl⟩
        have hB1113 : Below w11.heap.size w11 w13 := hB12.trans ((low_here hw13).mono hB12.size)
        have HC413 : Hid (Bk w13 c4 [.int .i64 i, .int .i64 q, .int .i64 u, .int .i64 st2, .string ⟨mc2.toArray⟩, .int .i64 us2, .int .i64 gr2, .slice od gs2.length cd] 35) := bk_here hw13 hc4
        have HC313 := hid (HC311.out.below hB1113 HC311.out.lt)
        have HC113 := hid (HC111.out.below hB1113 HC111.out.lt)
        have HC213 := hid (HC211.out.below hB1113 HC211.out.lt)
        have HB13 : Hid (Below w9.heap.size w9 w13) := HB11.out.trans (hB1113.mono HB11.out.size)
        have HM2 : Hid (∃ y, One2.l y = .slice oc gs2.length cc ∧ One2.w y = .slice od gs2.length cd ∧ ∃ K, Ga w13 D (X ++ [x] ++ [y]) (2 * j) (2 * j) (.slice ol (2 * j) cl) (.slice ow (2 * j) cw) K) := by
          obtain ⟨K, hG⟩ := HG9
          have o1 : OwnI w13 w9.heap.size (.slice oc gs2.length cc) gs2 := HO11.out.idle hB1113
          have o2 : OwnI w13 w11.heap.size (.slice od gs2.length cd) gs2 := HO12.out.idle (low_here hw13)
          obtain ⟨y, K', e1, e2, h3⟩ := hG.more HB13.out o1 o2 (Nat.le_refl _) HB11.out.size (fun g g2 h1 h2 => by have q1 := (HO11.out.lt g h1).2; have q2 := (o2.lt g2 h2).1; omega) HSM.out.2 (by rw [List.length_append, HXL.out]; exact Nat.le_add_right _ _) (by rw [List.length_append, HXL.out]; exact Nat.le_add_right _ _)
          exact ⟨y, e1, e2, K', h3⟩
        obtain ⟨y, e1, e2, HG13⟩ := HM2.out
        have HE2 := hid (And.intro e1 e2)
        have HY := hid HG13
        have HOA13 := hid (HOA.out.idle HB13.out)
        have HOB13 := hid (HOB.out.idle HB13.out)
        have HOC13 := hid (HO11.out.idle hB1113)
        have HOD13 := hid (HO12.out.idle (low_here hw13))
        have HSY := hid (syses_core st us gr mc gs oa ob ca cb w13 HOA13.out.gsAt HOB13.out.gsAt (by have := HSM.out.1; omega))
        have HZ : Hid (wr.heap.size ≤ c2 ∧ wr.heap.size ≤ c4) := by
          have z1 := HB9.out.size
          have z2 := HB13.out.size
          have z3 := hB12.size
          have z4 := HB11.out.size
          exact ⟨HZ2.out, by rw [← hc4]; omega⟩
        have r0 := HC113.out.cell 0 rfl
        have r1 := HC113.out.cell 1 rfl
        have r2 := HC113.out.cell 2 rfl
        have r3 := HC113.out.cell 3 rfl
        have r4 := HC113.out.cell 4 rfl
        have s0 := HC213.out.cell 0 rfl
        have s1 := HC213.out.cell 1 rfl
        have s2 := HC213.out.cell 2 rfl
        have s3 := HC213.out.cell 3 rfl
        have s4 := HC213.out.cell 4 rfl
        clear hB12 hB1113 HM2 e1 e2 HC311 HC111 HC211 HO11 HO12 HB11 HG13 HG9 HOA HOB
        go_wp2_with fail
        refine HSY.out.mono ?_
        rintro e w14 ⟨rfl, hB14⟩
        have HMA := hid (marks_core i q u st2 us2 gr2 mc2 gs2 oc od cc cd w14 (HOC13.out.idle hB14).gsAt (HOD13.out.idle hB14).gsAt (by have := HSM.out.2; omega))
        have HC114 := hid (HC113.out.below hB14 HC113.out.lt)
        have HC214 := hid (HC213.out.below hB14 HC213.out.lt)
        have HC314 := hid (HC313.out.below hB14 HC313.out.lt)
        have HC414 := hid (HC413.out.below hB14 HC413.out.lt)
        have HB14 := hid hB14
        clear hw13 hc4 r0 r1 r2 r3 r4 s0 s1 s2 s3 s4 HSY hB14 HC113 HC213 HC313 HC413 HOA13 HOB13 HOC13 HOD13
        have r0 := HC314.out.cell 0 rfl
        have r1 := HC314.out.cell 1 rfl
        have r2 := HC314.out.cell 2 rfl
        have r3 := HC314.out.cell 3 rfl
        have r4 := HC314.out.cell 4 rfl
        have r5 := HC314.out.cell 5 rfl
        have r6 := HC314.out.cell 6 rfl
        have r7 := HC314.out.cell 7 rfl
        have s0 := HC414.out.cell 0 rfl
        have s1 := HC414.out.cell 1 rfl
        have s2 := HC414.out.cell 2 rfl
        have s3 := HC414.out.cell 3 rfl
        have s4 := HC414.out.cell 4 rfl
        have s5 := HC414.out.cell 5 rfl
        have s6 := HC414.out.cell 6 rfl
        have s7 := HC414.out.cell 7 rfl
        go_wp2_with fail
        refine HMA.out.mono ?_
        rintro e w15 ⟨rfl, hB15⟩
        have hB1315 : Below w13.heap.size w13 w15 := HB14.out.trans (hB15.mono HB14.out.size)
        have HB15 : Hid (Below wr.heap.size wr w15) := HB9.out.trans ((HB13.out.trans (hB1315.mono HB13.out.size)).mono HB9.out.size)
        have HC115 := hid (HC114.out.below hB15 HC114.out.lt)
        have HC215 := hid (HC214.out.below hB15 HC214.out.lt)
        have HC315 := hid (HC314.out.below hB15 HC314.out.lt)
        have HC415 := hid (HC414.out.below hB15 HC414.out.lt)
        have HG15 : Hid (∃ K, Ga w15 D (X ++ [x] ++ [y]) (2 * j) (2 * j) (.slice ol (2 * j) cl) (.slice ow (2 * j) cw) K) := by
          obtain ⟨K, hG⟩ := HY.out
          exact ⟨K, hG.idle hB1315⟩
        clear hB15 hB1315 r0 r1 r2 r3 r4 r5 r6 r7 s0 s1 s2 s3 s4 s5 s6 s7 HMA HC114 HC214 HC314 HC414 HY
        have p1 := HC115.out.cell 4 rfl
        have p3 := HC315.out.cell 7 rfl
        have ez1 : (es != es) = false := by simp
        have ez2 : (em != em) = false := by simp
        have HDR : Hid (D ≤ wr.heap.size) := by obtain ⟨K, hG⟩ := HGA.out; exact hG.hB
        have HOL : Hid (∀ g, (Value.slice ol (2 * j) cl).ownBlock = some g → g < wr.heap.size) := by
          obtain ⟨K, hG⟩ := HGA.out
          exact fun g e => (hG.lown.lt g e).2
        go_wp2_with (at_builtin; refine Hid.out ?_)
        refine (show Hid _ from ?_)
        obtain ⟨K1, hG1⟩ := HG15.out
        have HU := hid (hG1.idle (below_alloc w15 (.cells #[.slice oa gs.length ca, .slice oc gs2.length cc] 28)))
        refine wpList_append_some rfl _ _ 27 rfl 2 D 28 inf2 (.slice none 0 0) 1 24 und_ll HI2.out rfl (by decide) (.slice ol (2 * j) cl) (2 * j) _ rfl HU.out.lown ⟨w15.heap.size, 0, none⟩ 2 [.slice oa gs.length ca, .slice oc gs2.length cc] (by omega) rfl rfl (World.news_of_block (cs := #[.slice oa gs.length ca, .slice oc gs2.length cc]) (t := 28) (fr := (0, 0)) (heap_alloc_new _ _)) (by simp [Value.oneCell']) (by unfold maxLen; omega) (by omega) HU.out.hB ?_
        intro g3 cap3 w16 hown hpart
        have hBa : Below D w5 (w15.alloc (.cells #[.slice oa gs.length ca, .slice oc gs2.length cc] 28)) := HBR.out.trans ((HB15.out.trans ((below_alloc w15 _).mono HB15.out.size)).mono HDR.out)
        have HP16 := hid (HU.out.putL (a' := 2 * j + 2) hBa (by rw [← two_more X x y _ HXL.out One2.l, HE1.out.1, HE2.out.1]; exact hown) hpart)
        have HC216 : Hid (Bk w16 c2 [.int .i64 st, .string ⟨mc.toArray⟩, .int .i64 us, .int .i64 gr, .slice ob gs.length cb] 30) := (grown_kept hpart HOL.out HZ.out.1 (Nat.lt_of_lt_of_le HC215.out.lt (below_alloc w15 _).size)).trans (HC215.out.below (below_alloc w15 _) HC215.out.lt)
        have HC416 : Hid (Bk w16 c4 [.int .i64 i, .int .i64 q, .int .i64 u, .int .i64 st2, .string ⟨mc2.toArray⟩, .int .i64 us2, .int .i64 gr2, .slice od gs2.length cd] 35) := (grown_kept hpart HOL.out HZ.out.2 (Nat.lt_of_lt_of_le HC415.out.lt (below_alloc w15 _).size)).trans (HC415.out.below (below_alloc w15 _) HC415.out.lt)
        clear hown hpart hBa HU hG1 p1 p3 HC115 HC215 HC315 HC415
        have p2 := HC216.out.cell 4 rfl
        have p4 := HC416.out.cell 7 rfl
        go_wp2_with (at_builtin; refine Hid.out ?_)
        refine (show Hid _ from ?_)
        obtain ⟨⟨K2, hG2⟩, hB16⟩ := HP16.out
        have HU := hid (hG2.idle (below_alloc w16 (.cells #[.slice ob gs.length cb, .slice od gs2.length cd] 28)))
        refine wpList_append_some rfl _ _ 27 rfl 2 D 28 inf2 (.slice none 0 0) 1 24 und_ll HI2.out rfl (by decide) (.slice ow (2 * j) cw) (2 * j) _ rfl HU.out.wown ⟨w16.heap.size, 0, none⟩ 2 [.slice ob gs.length cb, .slice od gs2.length cd] (by omega) rfl rfl (World.news_of_block (cs := #[.slice ob gs.length cb, .slice od gs2.length cd]) (t := 28) (fr := (0, 0)) (heap_alloc_new _ _)) (by simp [Value.oneCell']) (by unfold maxLen; omega) (by omega) HU.out.hB ?_
        intro g4 cap4 w17 hown hpart
        have hBa : Below D w5 (w16.alloc (.cells #[.slice ob gs.length cb, .slice od gs2.length cd] 28)) := hB16.trans ((below_alloc w16 _).mono hG2.hB)
        have HP17 := hid (HU.out.putW (b' := 2 * j + 2) hBa (by rw [← two_more X x y _ HXL.out One2.w, HE1.out.2, HE2.out.2]; exact hown) hpart)
        have HX17 : Hid ((X ++ [x] ++ [y]).length = 2 * (j + 1)) := by
          show _ = _
          rw [List.length_append, List.length_append, HXL.out]
          simp only [List.length_cons, List.length_nil]
          omega
        clear hown hpart hBa HU hG2 hB16 p2 p4 HP16 HC216 HC416
        go_wp2
        go_roundw
        case rel => exact ⟨j + 1, cap3, cap4, some ⟨g3, 0, none⟩, some ⟨g4, 0, none⟩, X ++ [x] ++ [y], by go_num, rfl, rfl, HJ.out, HX17, HP17.out.1, HP17.out.2⟩
        case measure => have := HJ.out; simp [intOf]; omega
      · obtain rfl : j = 4 := by omega
        obtain ⟨K, hG⟩ := HGA.out
        obtain ⟨ql, c1, e1, _, _⟩ := hG.lown.form (by omega)
        obtain ⟨qw, c2, e2, _, _⟩ := hG.wown.form (by omega)
        cases e1
        cases e2
        have hx := HXL.out
        have HAP : Hid (Calls Tryz.prog 13 #[.slice (some ⟨ql, 0, none⟩) (2 * 4) cl, .slice (some ⟨qw, 0, none⟩) (2 * 4) cw] wr fun e w' => e = .returned (.bool true) ∧ Below D wr w') := by
          have h := Ga.out (w := wr) (B := D) (q := ql) (cl := cl) (qw := qw) (cw := cw) (X := X) (K := K) (by rw [hx]; exact hG) (by omega)
          rw [hx] at h
          exact h
        clear hG hx
        go_wp2_with fail
        refine HAP.out.mono ?_
        rintro e w' ⟨rfl, hB'⟩
        go_wp2
        go_ret
        exact ⟨rfl, HB5.out.trans ((HBR.out.trans hB').mono (by rw [← HD.out]; exact HB5.out.size))⟩
end Go.Proofs.YtihcdahmfdijoaaGreatDoor
