/- ShelfBound: its walk. -/
import Derived.Test.YthhddpobnkmeaaaBoD
import Derived.Deep.CutBlock
import Derived.Deep.CutRange
namespace Go.Proofs.Ythhddpobnkmeaaa
open Go.RowKit
set_option maxHeartbeats 4000000 in
set_option maxRecDepth 8000 in
theorem bound_any (most : Int) (hmo : -9223372036854775808 ≤ most ∧ most ≤ 9223372036854775807) (oa : Option Addr) (sb off len cap : Nat) (O : Nat → ActR) (w : World) (hoa : 0 < len → oa = some ⟨sb, off, none⟩) (hops : ActsAt w sb off len O) (hlen : decide (2147483647 < (len : Int)) = false) :
    Calls Try.prog 4 #[.int .i64 most, .slice oa len cap] w fun e w' => e = .returned (.bool true) ∧ Below w.heap.size w w' := by
  have HL : Hid (len ≤ 2147483647) := by simp at hlen; show len ≤ 2147483647; omega
  have HO := hid hops
  have HA := hid hoa
  have HP := hid (fun w => pick_any most 12 w hmo.1 hmo.2 (by omega) (by omega))
  have hpr := pick_range most 12 (by omega)
  obtain ⟨rm, hrm⟩ : ∃ rm : Nat, pickP most 12 = rm := ⟨(pickP most 12).toNat, by omega⟩
  have HRM : Hid (rm < 12) := by show rm < 12; omega
  rw [hrm] at HP
  clear hpr hrm hops hoa hmo
  obtain ⟨w0, hw0⟩ : ∃ w0, w.alloc (.cells #[.slice oa len cap] 49) = w0 := ⟨_, rfl⟩
  obtain ⟨pa, hpa⟩ : ∃ pa, w.heap.size = pa := ⟨_, rfl⟩
  have H0 : Hid (BS w w0 (ext w (fun _ => 0) (fun _ => 4)) ∧ TB (ext w (fun _ => 0) (fun _ => 4)) w0 4 pa (.cells #[.slice oa len cap] 49)) := by
    have v1 := Mv.alloc w (fun _ => 0) (fun _ => 4) (.cells #[.slice oa len cap] 49)
    have t1 := TB.new w (fun _ => 0) (fun _ => 4) (.cells #[.slice oa len cap] 49) (t := 4) rfl
    rw [hw0] at v1 t1
    rw [hpa] at t1
    exact ⟨(BS.first w).mv v1 id, t1⟩
  obtain ⟨K0, hK0⟩ : ∃ K0, ext w (fun _ => 0) (fun _ => 4) = K0 := ⟨_, rfl⟩
  rw [hK0] at H0
  clear hK0
  have x3 : w0.cell? ⟨pa, 0, none⟩ = some (.slice oa len cap) := by unfold World.cell?; rw [H0.out.2.at_]; rfl
  go_enter Try.func4, Try.ntmps4
  go_wp2_with fail
  refine (awake_any w0).mono ?_
  rintro _ w1 ⟨rfl, e1⟩
  have v1 := Mv.of_below e1 K0 (fun _ => 9)
  obtain ⟨K1, hK1⟩ : ∃ K1, ext w0 K0 (fun _ => 9) = K1 := ⟨_, rfl⟩
  rw [hK1] at v1
  have H1 := hid (And.intro (H0.out.1.mv v1 id) (H0.out.2.mv v1 id))
  clear e1 v1 H0 hK1 x3
  go_wp2_with fail
  refine (HP.out w1).mono ?_
  rintro _ _ ⟨rfl, rfl⟩
  rename_i w1
  go_wp2_with fail
  refine (newI_good w1 rm rm rfl (by have := HRM.out; omega)).mono ?_
  rintro _ w2 ⟨rfl, ha, e2⟩
  obtain ⟨K2, ta, mv⟩ := TS.made ha e2 (by omega) K1 1
  have H2 := hid (And.intro (H1.out.1.mv mv id) (And.intro ta (H1.out.2.mv mv id)))
  clear ha e2 mv ta H1
  generalize w1.heap.size + 2 = p at *
  generalize w1.heap.size + 1 = m at *
  generalize w1.heap.size = r at *
  obtain ⟨w3, hw3⟩ : ∃ w3, w2.alloc (.cells #[.int .i64 0] 3) = w3 := ⟨_, rfl⟩
  obtain ⟨b0, hb0⟩ : ∃ b0, w2.heap.size = b0 := ⟨_, rfl⟩
  have H3 : Hid (SB w oa len cap p rm m r pa b0 0 (ext w2 K2 (fun _ => 5)) w3 (.slice none 0 0) (.slice none 0 0) [] 10 11) := by
    have v1 := Mv.alloc w2 K2 (fun _ => 5) (.cells #[.int .i64 0] 3)
    have t1 := TB.new w2 K2 (fun _ => 5) (.cells #[.int .i64 0] 3) (t := 5) rfl
    rw [hw3] at v1 t1
    rw [hb0] at t1
    exact ⟨H2.out.1.mv v1 id, H2.out.2.1.mv v1 id, RowT.nil _ _ _ _ _, RowT.nil _ _ _ _ _, H2.out.2.2.mv v1 id, t1, by omega⟩
  have y1 : w3.cell? ⟨b0, 0, none⟩ = some (.int .i64 0) := H3.out.c11
  have y2 : w3.frozen? ⟨b0, 0, none⟩ = false := H3.out.f11
  have y3 : w3.setCell ⟨b0, 0, none⟩ (.int .i64 0) = w3 := by
    rw [← hw3, ← hb0, World.setCell_alloc_new]
    rfl
  generalize ext w2 K2 (fun _ => 5) = K3 at H3
  clear H2
  go_wp2_with fail
  clear y1 y2 y3
  go_loopw [9, 10, 11] (fun u9 u10 u11 wr => ∃ (b i : Nat) (K : Nat → Nat) (L : List Tt) (tk tv : Nat), u11 = ptr b ∧ i ≤ len ∧ SB w oa len cap p rm m r pa b i K wr u9 u10 L tk tv) (fun _ _ u11 wr => len - numAt u11 wr)
  case atStart => exact ⟨b0, 0, K3, [], 10, 11, rfl, Nat.zero_le _, H3.out⟩
  case round =>
    obtain ⟨b, i, K, L, tk, tv, rfl, hi, hs⟩ := hrel
    obtain ⟨wo, hwo⟩ : ∃ wo, wo = wr := ⟨_, rfl⟩
    subst hwo
    have HS := hid hs
    have x11 := hs.c11
    have x3 := hs.c3
    clear hs H3
    by_cases hlt : i < len
    · have hi' : (i : Int) < (len : Int) := by omega
      obtain rfl := HA.out (by omega)
      have HOr := hid (HO.out.below HS.out.bs.be)
      have q0 := HOr.out.c0 i hlt
      have q1 := HOr.out.c1 i hlt
      have HPK := hid (fun w => pick_any (O i).k 16 w (HOr.out.k i hlt).1 (HOr.out.k i hlt).2 (by omega) (by omega))
      have HPR := hid (pick_range (O i).k 16 (by omega))
      obtain ⟨kk, hkk⟩ : ∃ kk, (O i).k = kk := ⟨_, rfl⟩
      obtain ⟨kd, hkd⟩ : ∃ kd, (O i).kind = kd := ⟨_, rfl⟩
      rw [hkk] at q1 HPK HPR
      rw [hkd] at q0
      obtain ⟨k, hk⟩ : ∃ k, pickP kk 16 = k := ⟨_, rfl⟩
      rw [hk] at HPK HPR
      have HWF : Hid ((Lit.int .i64 k).wf = true) := by
        have h1 := HPR.out
        have hmin : IntKind.i64.min = -9223372036854775808 := rfl
        have hmax : IntKind.i64.max = 9223372036854775807 := rfl
        show (Lit.int .i64 k).wf = true
        simp only [Lit.wf, Bool.and_eq_true, decide_eq_true_eq]
        omega
      obtain ⟨o9, c9, e9, hc9, hg9⟩ := HS.out.ks.form
      obtain ⟨o10, c10, e10, hc10, hg10⟩ := HS.out.vs.form
      subst e9 e10
      have HF := hid (And.intro hg9 hg10)
      clear hg9 hg10
      obtain ⟨n, hn⟩ : ∃ n, L.length = n := ⟨_, rfl⟩
      have HN := hid hn
      rw [hn] at HS HF hc9 hc10 ⊢
      clear hn
      go_wp2_with fail
      refine (HPK.out _).mono ?_
      rintro _ wq ⟨rfl, hwq⟩
      have hwq2 := hwq.symm
      subst hwq2
      clear hwq
      have HM0 := hid (numAt_is HS.out.c11)
      go_upto_block 2 with fail
      go_cut [13] from 47 to 264 (fun s wx => ∃ j : Nat, s = .int .i64 j ∧ j ≤ n ∧ Hid (FS L k j ∧ (∀ h : j < L.length, (L[j]'h).k = k)) ∧ Hid (wx = wo))
      case first =>
        as_aux_lemma =>
        go_wp2_with fail
        go_loopw [13] (fun u13 wr => ∃ j : Nat, u13 = .int .i64 j ∧ wr = wo ∧ j ≤ n ∧ FS L k j) (fun u13 _ => n - (intOf u13).toNat)
        case atStart => exact ⟨0, rfl, rfl, Nat.zero_le _, fun x t hx => by omega⟩
        case round =>
          obtain ⟨j, rfl, hwq, hj, hfs⟩ := hrel
          have hwq2 := hwq.symm
          subst hwq2
          clear hwq
          by_cases hjn : j < n
          · have hj' : (j : Int) < (n : Int) := by omega
            have hjL : j < L.length := by rw [HN.out]; exact hjn
            obtain ⟨g9, hg9⟩ := HF.out.1 (by omega)
            subst hg9
            have xk : wo.cell? ⟨g9, j, none⟩ = some (.int .i64 (L[j]'hjL).k) := by
              have hks := HS.out.ks.own
              rw [HN.out] at hks
              rw [hks.cellAt j (by omega)]
              simp [hjL]
            by_cases hkk2 : (L[j]'hjL).k = k
            · have hne : ((L[j]'hjL).k == k) = true := by simp [hkk2]
              have HJ := hid (And.intro hfs (fun h : j < L.length => hkk2))
              generalize (L[j]'hjL).k = kj at xk hne
              clear hfs hkk2
              go_wp2_with fail
              go_meet
              exact ⟨j, rfl, by omega, HJ.out, rfl⟩
            · have hne : ((L[j]'hjL).k == k) = false := by simp [hkk2]
              have HFS := hid (hfs.step hjL hkk2)
              have hwr : wrap64 ((j : Int) + 1) = (j : Int) + 1 := by
                have h1 := HS.out.mx
                have h2 := HN.out
                unfold wrap64; omega
              generalize (L[j]'hjL).k = kj at *
              clear hfs hjL
              go_wp2
              go_roundw
              case rel => exact ⟨j + 1, by rw [hwr]; rfl, by first | rfl | trivial, hjn, HFS.out⟩
              case measure => exact meas hwr hj'
          · obtain rfl : j = n := by omega
            have HJ : Hid (FS L k j ∧ (∀ h : j < L.length, (L[j]'h).k = k)) := ⟨hfs, fun h => by have := HN.out; omega⟩
            clear hfs
            go_wp2_with fail
            go_meet
            exact ⟨j, rfl, Nat.le_refl _, HJ.out, rfl⟩
      case rest =>
      obtain ⟨j, hv13, hj, HJ, HW13⟩ := hcut
      subst hv13
      have hwq2 := HW13.out.symm
      subst hwq2
      clear HW13
      go_upto_block 4 with fail
      go_cut [9, 10, 14] from 47 to 264 (fun v9 v10 _ wx => Hid (∃ K' L' tk' tv', SB w (some ⟨sb, off, none⟩) len cap p rm m r pa b i K' wx v9 v10 L' tk' tv'))
      case first =>
        as_aux_lemma =>
        clear HPK q1
        by_cases hjn : j < n
        · have d1 : decide (j < n) = true := by simp [hjn]
          have d2 : decide ((j : Int) < (n : Int)) = true := by simp; omega
          obtain ⟨A, t, B, hL, hA, htk⟩ : ∃ A t B, L = A ++ t :: B ∧ A.length = j ∧ t.k = k := by
            have hjL : j < L.length := by rw [HN.out]; exact hjn
            exact ⟨_, _, _, cut_at hjL, by simp; omega, HJ.out.2 hjL⟩
          clear HJ
          by_cases hkd1 : kd = 1
          · have hk1 : (kd == 1) = true := by simp [hkd1]
            as_aux_lemma =>
            have HD : Hid (Calls Try.prog 15 #[ptr p, .int .i64 k] wo fun e w' => e = .returned (.int .i64 0) ∧ SH kdI w' p rm m r (A ++ B) ∧ Chg (foot p m r L) (foot p m r (A ++ B)) wo w') := by
              have h1 := HS.out.ts.sh
              rw [hL] at h1 ⊢
              rw [← htk]
              exact dropI_some h1
            go_wp2_with fail
            refine HD.out.mono ?_
            rintro _ w4 ⟨rfl, h1, c1⟩
            obtain ⟨K4, a1, a2, a3, a4, a5, a6⟩ := HS.out.shelf h1 c1
            have tg := HS.out.tg
            have mx := HS.out.mx
            have hnL := HN.out
            have hAB : A.length + (B.length + 1) = n := by rw [← hnL, hL]; simp
            obtain ⟨g9, hg9⟩ := HF.out.1 (by omega)
            obtain ⟨g10, hg10⟩ := HF.out.2 (by omega)
            subst hg9 hg10
            obtain ⟨tz, htz⟩ : ∃ tz, tz = tk + tv + 20 := ⟨_, rfl⟩
            have own9 := a3.own
            have own10 := a4.own
            rw [hnL] at own9 own10
            have kc : ∀ x, x < n → w4.cell? ⟨g9, x, none⟩ = (L.map fun t => Value.int .i64 t.k)[x]? := fun x hx => own9.cellAt x (by omega)
            have vc : ∀ x, x < n → w4.cell? ⟨g10, x, none⟩ = (L.map fun t => Value.string t.v)[x]? := fun x hx => own10.cellAt x (by omega)
            have lt9 := (own9.lt g9 rfl).2
            have lt10 := (own10.lt g10 rfl).2
            obtain ⟨v15, w5, K5, r5, t5, v5⟩ := appI (RowT.nil K4 w4 w.heap.size 3 tz) a1.be.size ⟨g9, 0, none⟩ j c9 (A.map Th.k) (by simpa using hA) (fun x u hu => by
              rw [Addr.add_lit, Nat.zero_add]
              have hx : x < A.length := by
                have := (List.getElem?_eq_some_iff.1 hu).1
                simpa using this
              rw [kc x (by omega), ← hu, hL]
              simp [List.getElem?_append_left, hx]) (by omega)
            obtain ⟨v16, w6, K6, r6, t6, v6⟩ := appS (RowT.nil K5 w5 w.heap.size 9 (tz + 1)) (Nat.le_trans a1.be.size v5.size) ⟨g10, 0, none⟩ j c10 (A.map Th.v) (by simpa using hA) (fun x u hu => by
              rw [Addr.add_lit, Nat.zero_add]
              have hx : x < A.length := by
                have := (List.getElem?_eq_some_iff.1 hu).1
                simpa using this
              rw [World.cell?_of_block (a := ⟨g10, x, none⟩) (v5.kept g10 lt10 (by rw [a4.k g10 rfl]; omega)), vc x (by omega), ← hu, hL]
              simp [List.getElem?_append_left, hx]) (by omega)
            simp only [Nat.zero_add, List.nil_append] at t5 t6
            obtain ⟨s9, hs9, hs9'⟩ := slice_tail26 g9 n c9 (j + 1) (by omega) hc9
            obtain ⟨s10, hs10, hs10'⟩ := slice_tail53 g10 n c10 (j + 1) (by omega) hc10
            have hB : B.length = n - (j + 1) := by omega
            obtain ⟨v9', w7, K7, r7, t7, v7⟩ := appI (t5.mv v6 (by omega)) (Nat.le_trans a1.be.size (Nat.le_trans v5.size v6.size)) s9 (n - (j + 1)) (c9 - (j + 1)) (B.map Th.k) (by simpa using hB) (fun x u hu => by
              have hx : x < B.length := by
                have := (List.getElem?_eq_some_iff.1 hu).1
                simpa using this
              rw [hs9' (by omega), Addr.add_lit, World.cell?_of_block (a := ⟨g9, j + 1 + x, none⟩) (((v5.mono (T' := fun x => x = tz ∨ x = tz + 1) (fun _ h => .inl h)).trans (v6.mono (fun _ h => .inr h))).kept g9 lt9 (by rw [a3.k g9 rfl]; omega)), kc _ (by omega), ← hu, hL, ← hA]
              rw [tail_at, List.map_map]; rfl) (by omega)
            obtain ⟨v10', w8, K8, r8, t8, v8⟩ := appS (t6.mv v7 (by omega)) (Nat.le_trans a1.be.size (Nat.le_trans v5.size (Nat.le_trans v6.size v7.size))) s10 (n - (j + 1)) (c10 - (j + 1)) (B.map Th.v) (by simpa using hB) (fun x u hu => by
              have hx : x < B.length := by
                have := (List.getElem?_eq_some_iff.1 hu).1
                simpa using this
              rw [hs10' (by omega), Addr.add_lit, World.cell?_of_block (a := ⟨g10, j + 1 + x, none⟩) ((((v5.mono (T' := fun x => x = tz ∨ x = tz + 1) (fun _ h => .inl h)).trans (v6.mono (fun _ h => .inr h))).trans (v7.mono (fun _ h => .inl h))).kept g10 lt10 (by rw [a4.k g10 rfl]; omega)), vc _ (by omega), ← hu, hL, ← hA]
              rw [tail_at, List.map_map]; rfl) (by omega)
            have hlenAB : (A ++ B).length = j + (n - (j + 1)) := by simp; omega
            have vv : Mv (fun x => x = tz ∨ x = tz + 1) w4 w8 K4 K8 := (((v5.mono (fun _ h => .inl h)).trans (v6.mono (fun _ h => .inr h))).trans (v7.mono (fun _ h => .inl h))).trans (v8.mono (fun _ h => .inr h))
            have HZ : Hid (∃ K' L' tk' tv', SB w (some ⟨sb, off, none⟩) len cap p rm m r pa b i K' w8 v9' v10' L' tk' tv') := by
              refine ⟨K8, A ++ B, tz, tz + 1, a1.mv vv (by omega), a2.mv vv (by omega), ?_, ?_, a5.mv vv (by omega), a6.mv vv (by omega), by omega⟩
              · have h9 := t7.mv v8 (by omega)
                rw [hlenAB]
                simpa [Function.comp_def] using h9
              · rw [hlenAB]
                simpa [Function.comp_def] using t8
            generalize hd9 : n - (j + 1) = nd at *
            generalize c9 - (j + 1) = cd9 at *
            generalize c10 - (j + 1) = cd10 at *
            have R5 := hid r5
            have R6 := hid r6
            have R7 := hid r7
            have R8 := hid r8
            have hh9 := slice_head26 w4 g9 n c9 j (by omega)
            have hh10 := slice_head53 w5 g10 n c10 j (by omega)
            have ht9 : (Instr.slice 26 (.slice (some ⟨g9, 0, none⟩) n c9) (some (.int .i64 ((j : Int) + 1))) none none).run Try.prog w6 = .ok (.slice (some s9) nd cd9) w6 := hs9 w6
            have ht10 : (Instr.slice 53 (.slice (some ⟨g10, 0, none⟩) n c10) (some (.int .i64 ((j : Int) + 1))) none none).run Try.prog w7 = .ok (.slice (some s10) nd cd10) w7 := hs10 w7
            have hwr : wrap64 ((j : Int) + 1) = (j : Int) + 1 := by unfold wrap64; omega
            clear h1 c1 a1 a2 a3 a4 a5 a6 v5 v6 v7 v8 vv t5 t6 t7 t8 r5 r6 r7 r8 tg mx hnL hAB own9 own10 kc vc lt9 lt10 hs9 hs10 hs9' hs10' htz hB hlenAB hd9
            go_upto_region 39 with fail
            go_wp2_with (at_builtin; refine Hid.out ?_)
            refine (show Hid _ from ?_)
            refine wpList_app rfl _ _ 26 rfl _ _ _ _ rfl rfl (R5.out _) ?_
            go_wp2_with (at_builtin; refine Hid.out ?_)
            refine (show Hid _ from ?_)
            refine wpList_app rfl _ _ 53 rfl _ _ _ _ rfl rfl (R6.out _) ?_
            go_wp2_with (at_builtin; refine Hid.out ?_)
            refine (show Hid _ from ?_)
            refine wpList_app rfl _ _ 26 rfl _ _ _ _ rfl rfl (R7.out _) ?_
            go_wp2_with (at_builtin; refine Hid.out ?_)
            refine (show Hid _ from ?_)
            refine wpList_app rfl _ _ 53 rfl _ _ _ _ rfl rfl (R8.out _) ?_
            go_wp2_with fail
            go_meet
            exact HZ
          · have hk1 : (kd == 1) = false := by simp [hkd1]
            by_cases hkd2 : kd = 2
            · have hk2 : (kd == 2) = true := by simp [hkd2]
              as_aux_lemma =>
              have HPN := hid (fun w => pick_any (O i).n 16 w (HOr.out.n i hlt).1 (HOr.out.n i hlt).2 (by omega) (by omega))
              have q2 := HOr.out.c2 i hlt
              obtain ⟨N, hN⟩ : ∃ N, (O i).n = N := ⟨_, rfl⟩
              obtain ⟨P, hP⟩ : ∃ P, pickP N 16 = P := ⟨_, rfl⟩
              have HKP : Hid (∀ wr k v, Below wo.heap.size wo wr → Calls Try.prog 17 #[.int .i64 k, .string v, ptr pa, ptr b] wr fun e w' => e = .returned (.bool (decide (P ≤ k))) ∧ w' = wr) := fun wr k v hB => by
                have h1 := keep_any (HOr.out.below hB) hlt ((World.cell?_of_block (a := ⟨pa, 0, none⟩) (hB.block pa HS.out.pa.lt)).trans x3) ((World.cell?_of_block (a := ⟨b, 0, none⟩) (hB.block b HS.out.pi.lt)).trans x11) k v
                rw [hN, hP] at h1
                exact h1
              rw [hN] at q2 HPN
              rw [hP] at HPN
              obtain ⟨kp, hkp⟩ : ∃ kp : Int → Bool, kp = fun k => decide (P ≤ k) := ⟨_, rfl⟩
              have HPR2 : Hid (Calls Try.prog 16 #[ptr p, .func (.func 17) #[] #[ptr pa, ptr b]] wo fun e w' => e = .returned (.int .i64 (unw kp L).length) ∧ SH kdI w' p rm m r (wan kp L) ∧ Chg (foot p m r L) (foot p m r (wan kp L)) wo w') := by
                refine pruneI_any HS.out.ts.sh pa b kp ?_
                rw [hkp]
                exact HKP.out
              have HKE := hid hkp
              have hNN := hN
              clear hkp hP hN
              go_wp2_with fail
              refine HPR2.out.mono ?_
              rintro _ w4 ⟨rfl, h1, c1⟩
              obtain ⟨K4, a1, a2, a3, a4, a5, a6⟩ := HS.out.shelf h1 c1
              have tg := HS.out.tg
              obtain ⟨tz, htz⟩ : ∃ tz, tz = tk + tv + 20 := ⟨_, rfl⟩
              have H4 : Hid (P3 w (some ⟨sb, off, none⟩) len cap p rm m r pa b i K4 w4 (.slice o9 n c9) (.slice o10 n c10) L tk tv kp 0 (.slice none 0 0) (.slice none 0 0)) := ⟨a1, a2, a3, a4, a5, a6, RowT.nil _ _ _ _ _, RowT.nil _ _ _ _ _⟩
              have HTZ := hid (And.intro tg htz)
              clear h1 c1 a1 a2 a3 a4 a5 a6 tg htz HPR2 HKP
              obtain ⟨nu, hnu⟩ : ∃ nu, (unw kp L).length = nu := ⟨_, rfl⟩
              rw [hnu]
              have HNU := hid hnu
              clear hnu
              go_wp2_with fail
              go_loopw [15, 16, 19] (fun u15 u16 u19 wr => ∃ (y : Nat) (KZ : Nat → Nat), u19 = .int .i64 y ∧ y ≤ n ∧ P3 w (some ⟨sb, off, none⟩) len cap p rm m r pa b i KZ wr (.slice o9 n c9) (.slice o10 n c10) L tk tv kp y u15 u16) (fun _ _ u19 _ => n - (intOf u19).toNat)
              case atStart => exact ⟨0, K4, rfl, Nat.zero_le _, H4.out⟩
              case round =>
                obtain ⟨y, KZ, rfl, hy, hz⟩ := hrel
                have HZ := hid hz
                clear hz
                by_cases hyn : y < n
                · have hy' : (y : Int) < (n : Int) := by omega
                  have hyL : y < L.length := by rw [HN.out]; exact hyn
                  obtain ⟨g9, hg9⟩ := HF.out.1 (by omega)
                  obtain ⟨g10, hg10⟩ := HF.out.2 (by omega)
                  have z9 := HZ.out.ks.own
                  have z10 := HZ.out.vs.own
                  subst hg9 hg10
                  rw [HN.out] at z9 z10
                  have c9y : wr.cell? ⟨g9, y, none⟩ = some (.int .i64 (L[y]'hyL).k) := by
                    rw [z9.cellAt y (by omega)]; simp [hyL]
                  have c10y : wr.cell? ⟨g10, y, none⟩ = some (.string (L[y]'hyL).v) := by
                    rw [z10.cellAt y (by omega)]; simp [hyL]
                  have y11 : wr.cell? ⟨b, 0, none⟩ = some (.int .i64 i) := by unfold World.cell?; rw [HZ.out.pi.at_]; rfl
                  have y3 : wr.cell? ⟨pa, 0, none⟩ = some (.slice (some ⟨sb, off, none⟩) len cap) := by unfold World.cell?; rw [HZ.out.pa.at_]; rfl
                  have yq : wr.cell? ⟨sb, off + i * 3 + 2, none⟩ = some (.int .i64 N) := by
                    have h1 := (HO.out.below HZ.out.bs.be).c2 i hlt
                    rw [hNN] at h1
                    exact h1
                  clear z9 z10
                  have hwr : wrap64 ((y : Int) + 1) = (y : Int) + 1 := by
                    have h1 := HS.out.mx
                    have h2 := HN.out
                    unfold wrap64; omega
                  have hm20 := HS.out.mx
                  have HM20 := hid hm20
                  clear hm20
                  have hkq : kp (L[y]'hyL).k = decide (P ≤ (L[y]'hyL).k) := by rw [HKE.out]
                  cases hd : decide (P ≤ (L[y]'hyL).k)
                  · rw [hd] at hkq
                    have HNO : Hid (∀ nq, P3 w (some ⟨sb, off, none⟩) len cap p rm m r pa b i KZ (wr.drewN nq) (.slice (some ⟨g9, 0, none⟩) n c9) (.slice (some ⟨g10, 0, none⟩) n c10) L tk tv kp (y + 1) u15 u16) := fun nq => (HZ.out.drewN nq).no hyL hkq
                    generalize (L[y]'hyL) = ty at c9y c10y hd
                    obtain ⟨ty1, ty2, ty3⟩ := ty
                    simp only at c9y c10y hd
                    clear hkq hyL
                    go_wp2_with fail
                    go_quiet ((go_at_call 10; exact Calls.quiet_of_same (HPN.out _)))
                    all_goals (
                      go_wp2
                      go_roundw
                      case rel => exact ⟨y + 1, KZ, by rw [hwr]; rfl, hyn, HNO.out nq⟩
                      case measure => exact meas hwr hy')
                  · rw [hd] at hkq
                    have HYE := hid (fun nq => (HZ.out.drewN nq).yes hyL hkq HM20.out HTZ.out.1)
                    have hk10 := HZ.out.vs.k g10 rfl
                    have hl10 := (HZ.out.vs.own.lt g10 rfl).2
                    have HK10 := hid (And.intro hk10 hl10)
                    generalize (L[y]'hyL) = ty at *
                    obtain ⟨ty1, ty2, ty3⟩ := ty
                    simp only at c9y c10y hd HYE
                    clear hkq hyL hk10 hl10
                    go_wp2_with fail
                    go_quiet ((go_at_call 10; exact Calls.quiet_of_same (HPN.out _)))
                    obtain ⟨v15, v16, w6, w8, KY, r6, r8, e1, e2, hp⟩ := HYE.out nq
                    have HP3 := hid hp
                    have d10 : w6.cell? ⟨g10, y, none⟩ = some (.string ty3) := (World.cell?_of_block (a := ⟨g10, y, none⟩) (e2 g10 (.inr HK10.out.1) HK10.out.2)).trans c10y
                    obtain ⟨w5, hw5⟩ : ∃ w5, (wr.drewN nq).alloc (.cells #[.int .i64 ty2] 3) = w5 := ⟨_, rfl⟩
                    obtain ⟨N5, hN5⟩ : ∃ N5, wr.heap.size = N5 := ⟨_, rfl⟩
                    obtain ⟨w7, hw7⟩ : ∃ w7, w6.alloc (.cells #[.string ty3] 9) = w7 := ⟨_, rfl⟩
                    obtain ⟨N6, hN6⟩ : ∃ N6, w6.heap.size = N6 := ⟨_, rfl⟩
                    rw [hw5, show (wr.drewN nq).heap.size = N5 from hN5] at r6
                    rw [hw7, hN6] at r8
                    have R6 := hid r6
                    have R8 := hid r8
                    clear r6 r8 e1 e2 hp HYE
                    go_wp2_with (at_builtin; refine Hid.out ?_)
                    refine (show Hid _ from ?_)
                    refine wpList_app rfl _ _ 26 rfl _ _ _ _ rfl rfl (R6.out _) ?_
                    go_wp2_with (at_builtin; refine Hid.out ?_)
                    refine (show Hid _ from ?_)
                    refine wpList_app rfl _ _ 53 rfl _ _ _ _ rfl rfl (R8.out _) ?_
                    go_wp2
                    go_roundw
                    case rel => exact ⟨y + 1, KY, by rw [hwr]; rfl, hyn, HP3.out⟩
                    case measure => exact meas hwr hy'
                · obtain rfl : y = n := by omega
                  have hz := HZ.out
                  have hl := hz.l
                  have hm := hz.m
                  rw [List.take_of_length_le (by rw [HN.out]; exact Nat.le_refl _)] at hl hm
                  obtain ⟨o15, c15, e15, _, _⟩ := hl.form
                  obtain ⟨o16, c16, e16, _, _⟩ := hm.form
                  obtain ⟨nw, hnw⟩ : ∃ nw, (wan kp L).length = nw := ⟨_, rfl⟩
                  have hsum := unw_wan kp L
                  have hmx := HS.out.mx
                  have hsub : wrap64 ((y : Int) - (nw : Int)) = (nu : Int) := by
                    have h1 := HNU.out
                    have h2 := HN.out
                    unfold wrap64; omega
                  rw [hnw] at e15 e16
                  subst e15 e16
                  have HE : Hid (∃ K' L' tk' tv', SB w (some ⟨sb, off, none⟩) len cap p rm m r pa b i K' wr (.slice o15 nw c15) (.slice o16 nw c16) L' tk' tv') := ⟨KZ, wan kp L, tk + tv + 20, tk + tv + 21, hz.bs, hz.ts, hl, hm, hz.pa, hz.pi, by have := HTZ.out.1; omega⟩
                  clear hz hl hm hsum hmx hnw HZ H4 HS HF HN HTZ HKE HNU hy hyn
                  go_wp2_with fail
                  go_meet
                  exact HE
            · have hk2 : (kd == 2) = false := by simp [hkd2]
              as_aux_lemma =>
              have q2 := HOr.out.c2 i hlt
              obtain ⟨w5, hw5⟩ : ∃ w5, wo.alloc (.cells #[.int .u8 ((O i).n % 256), .int .u8 ((i : Int) % 256)] 5) = w5 := ⟨_, rfl⟩
              obtain ⟨N5, hN5⟩ : ∃ N5, wo.heap.size = N5 := ⟨_, rfl⟩
              obtain ⟨X, hX⟩ := conv_two (w := w5.drew) (N := N5) (show w5.heap[N5]? = _ by rw [← hw5, ← hN5]; exact (MapKept.heap_alloc wo _).1)
              obtain ⟨K5, HS5⟩ : ∃ K5, Hid (SB w (some ⟨sb, off, none⟩) len cap p rm m r pa b i K5 w5.drew (.slice o9 n c9) (.slice o10 n c10) L tk tv) := by
                have v1 := HS.out.mv (Mv.alloc wo K (fun _ => 9) (.cells #[.int .u8 ((O i).n % 256), .int .u8 ((i : Int) % 256)] 5)) id id id id id id
                rw [hw5] at v1
                exact ⟨_, v1.drew⟩
              have HP5 : Hid (Calls Try.prog 18 #[ptr p, .int .i64 k, .string X] w5.drew fun e w' => e = .returned (.int .i64 0) ∧ SH kdI w' p rm m r (A ++ ⟨t.b, t.k, X⟩ :: B) ∧ Chg (foot p m r L) (foot p m r (A ++ ⟨t.b, t.k, X⟩ :: B)) w5.drew w') := by
                have h1 := HS5.out.ts.sh
                rw [hL] at h1 ⊢
                rw [← htk]
                exact putI_some h1 X
              go_wp2_with fail
              go_region
              go_wp2_with fail
              refine HP5.out.mono ?_
              rintro _ w6 ⟨rfl, h1, c1⟩
              obtain ⟨K6, a1, a2, a3, a4, a5, a6⟩ := HS5.out.shelf h1 c1
              have tg := HS.out.tg
              have mx := HS.out.mx
              have hnL := HN.out
              obtain ⟨g10, hg10⟩ := HF.out.2 (by omega)
              subst hg10
              obtain ⟨tz, htz⟩ : ∃ tz, tz = tk + tv + 20 := ⟨_, rfl⟩
              have own10 := a4.own
              rw [hnL] at own10
              obtain ⟨v16, w7, K7, r7, t7, v7⟩ := appS (RowT.nil K6 w6 w.heap.size 9 tz) a1.be.size ⟨g10, 0, none⟩ n c10 (L.map Th.v) (by simpa using hnL) (fun x u hu => by
                rw [Addr.add_lit, Nat.zero_add]
                have hx : x < n := by
                  have := (List.getElem?_eq_some_iff.1 hu).1
                  simp at this; omega
                rw [own10.cellAt x (by omega), ← hu]
                simp [List.map_map]; rfl) (by omega)
              simp only [Nat.zero_add, List.nil_append] at t7
              obtain ⟨o16, c16, e16, _, hg16⟩ := t7.form
              obtain ⟨g16, hg16'⟩ := hg16 (by omega)
              subst hg16'
              subst e16
              obtain ⟨s1, s2⟩ := t7.own.stored j (.string X)
              have y1 : w7.cell? ⟨g16, j, none⟩ = some (.string t.v) := by
                rw [t7.own.cellAt j (by omega), hL, ← hA]
                simp
              have y2 : w7.frozen? ⟨g16, j, none⟩ = false := t7.own.frozenAt j
              obtain ⟨w8, hw8⟩ : ∃ w8, w7.setCell ⟨g16, j, none⟩ (.string X) = w8 := ⟨_, rfl⟩
              rw [hw8] at s1 s2
              have v8 := Mv.of_set w7 K7 ⟨g16, j, none⟩ (.string X) (t7.k g16 rfl)
              rw [hw8] at v8
              have HZ : Hid (∃ K' L' tk' tv', SB w (some ⟨sb, off, none⟩) len cap p rm m r pa b i K' w8 (.slice o9 n c9) (.slice (some ⟨g16, 0, none⟩) n c16) L' tk' tv') := by
                refine ⟨K7, A ++ ⟨t.b, t.k, X⟩ :: B, tk, tz, ?_, ?_, ?_, ?_, ?_, ?_, by omega⟩
                · exact (a1.mv v7 (by omega)).mv v8 (by omega)
                · exact (a2.mv v7 (by omega)).mv v8 (by omega)
                · have h9 := (a3.mv v7 (by omega)).mv v8 (by omega)
                  rw [hL] at h9
                  simpa using h9
                · have e1 : (A ++ (⟨t.b, t.k, X⟩ : Tt) :: B).length = n := by rw [← hnL, hL]; simp
                  rw [e1]
                  refine ⟨?_, t7.k⟩
                  have e2 : ((L.map Th.v).map Value.string).set j (.string X) = (A ++ (⟨t.b, t.k, X⟩ : Tt) :: B).map fun t => Value.string t.v := by
                    rw [hL, ← hA]; simp; rfl
                  rw [← e2]
                  exact s1
                · exact (a5.mv v7 (by omega)).mv v8 (by omega)
                · exact (a6.mv v7 (by omega)).mv v8 (by omega)
              have R7 := hid r7
              have hjc : (j : Int) < (n : Int) := by omega
              clear h1 c1 a1 a2 a3 a4 a5 a6 v7 v8 t7 r7 tg mx hnL own10 s1 s2 htz
              go_upto_region 26 with fail
              go_wp2_with (at_builtin; refine Hid.out ?_)
              refine (show Hid _ from ?_)
              refine wpList_app rfl _ _ 53 rfl _ _ _ _ rfl rfl (R7.out _) ?_
              go_wp2_with fail
              go_meet
              exact HZ
        · have d1 : decide (j < n) = false := by simp; omega
          have d2 : decide ((j : Int) < (n : Int)) = false := by simp; omega
          have HFA : Hid (∀ t ∈ L, t.k ≠ k) := by
            obtain rfl : j = n := by omega
            have h1 := HJ.out.1
            rw [← HN.out] at h1
            exact h1.all
          clear HJ
          by_cases hkd1 : kd = 1
          · have hk1 : (kd == 1) = true := by simp [hkd1]
            as_aux_lemma =>
            have HD := hid (dropI_none HS.out.ts.sh k HWF.out HFA.out)
            have HZ : Hid (∃ K' L' tk' tv', SB w (some ⟨sb, off, none⟩) len cap p rm m r pa b i K' wo (.slice o9 n c9) (.slice o10 n c10) L' tk' tv') := ⟨K, L, tk, tv, HS.out⟩
            clear HS HF HN HFA HWF HOr
            go_wp2_with fail
            refine HD.out.mono ?_
            rintro _ wq ⟨rfl, hwq⟩
            have hwq2 := hwq.symm
            subst hwq2
            clear hwq
            go_wp2_with fail
            go_meet
            exact HZ
          · have hk1 : (kd == 1) = false := by simp [hkd1]
            by_cases hkd2 : kd = 2
            · have hk2 : (kd == 2) = true := by simp [hkd2]
              as_aux_lemma =>
              have HPN := hid (fun w => pick_any (O i).n 16 w (HOr.out.n i hlt).1 (HOr.out.n i hlt).2 (by omega) (by omega))
              have q2 := HOr.out.c2 i hlt
              obtain ⟨N, hN⟩ : ∃ N, (O i).n = N := ⟨_, rfl⟩
              obtain ⟨P, hP⟩ : ∃ P, pickP N 16 = P := ⟨_, rfl⟩
              have HKP : Hid (∀ wr k v, Below wo.heap.size wo wr → Calls Try.prog 17 #[.int .i64 k, .string v, ptr pa, ptr b] wr fun e w' => e = .returned (.bool (decide (P ≤ k))) ∧ w' = wr) := fun wr k v hB => by
                have h1 := keep_any (HOr.out.below hB) hlt ((World.cell?_of_block (a := ⟨pa, 0, none⟩) (hB.block pa HS.out.pa.lt)).trans x3) ((World.cell?_of_block (a := ⟨b, 0, none⟩) (hB.block b HS.out.pi.lt)).trans x11) k v
                rw [hN, hP] at h1
                exact h1
              rw [hN] at q2 HPN
              rw [hP] at HPN
              obtain ⟨kp, hkp⟩ : ∃ kp : Int → Bool, kp = fun k => decide (P ≤ k) := ⟨_, rfl⟩
              have HPR2 : Hid (Calls Try.prog 16 #[ptr p, .func (.func 17) #[] #[ptr pa, ptr b]] wo fun e w' => e = .returned (.int .i64 (unw kp L).length) ∧ SH kdI w' p rm m r (wan kp L) ∧ Chg (foot p m r L) (foot p m r (wan kp L)) wo w') := by
                refine pruneI_any HS.out.ts.sh pa b kp ?_
                rw [hkp]
                exact HKP.out
              have HKE := hid hkp
              have hNN := hN
              clear hkp hP hN
              go_wp2_with fail
              refine HPR2.out.mono ?_
              rintro _ w4 ⟨rfl, h1, c1⟩
              obtain ⟨K4, a1, a2, a3, a4, a5, a6⟩ := HS.out.shelf h1 c1
              have tg := HS.out.tg
              obtain ⟨tz, htz⟩ : ∃ tz, tz = tk + tv + 20 := ⟨_, rfl⟩
              have H4 : Hid (P3 w (some ⟨sb, off, none⟩) len cap p rm m r pa b i K4 w4 (.slice o9 n c9) (.slice o10 n c10) L tk tv kp 0 (.slice none 0 0) (.slice none 0 0)) := ⟨a1, a2, a3, a4, a5, a6, RowT.nil _ _ _ _ _, RowT.nil _ _ _ _ _⟩
              have HTZ := hid (And.intro tg htz)
              clear h1 c1 a1 a2 a3 a4 a5 a6 tg htz HPR2 HKP
              obtain ⟨nu, hnu⟩ : ∃ nu, (unw kp L).length = nu := ⟨_, rfl⟩
              rw [hnu]
              have HNU := hid hnu
              clear hnu
              go_wp2_with fail
              go_loopw [15, 16, 19] (fun u15 u16 u19 wr => ∃ (y : Nat) (KZ : Nat → Nat), u19 = .int .i64 y ∧ y ≤ n ∧ P3 w (some ⟨sb, off, none⟩) len cap p rm m r pa b i KZ wr (.slice o9 n c9) (.slice o10 n c10) L tk tv kp y u15 u16) (fun _ _ u19 _ => n - (intOf u19).toNat)
              case atStart => exact ⟨0, K4, rfl, Nat.zero_le _, H4.out⟩
              case round =>
                obtain ⟨y, KZ, rfl, hy, hz⟩ := hrel
                have HZ := hid hz
                clear hz
                by_cases hyn : y < n
                · have hy' : (y : Int) < (n : Int) := by omega
                  have hyL : y < L.length := by rw [HN.out]; exact hyn
                  obtain ⟨g9, hg9⟩ := HF.out.1 (by omega)
                  obtain ⟨g10, hg10⟩ := HF.out.2 (by omega)
                  have z9 := HZ.out.ks.own
                  have z10 := HZ.out.vs.own
                  subst hg9 hg10
                  rw [HN.out] at z9 z10
                  have c9y : wr.cell? ⟨g9, y, none⟩ = some (.int .i64 (L[y]'hyL).k) := by
                    rw [z9.cellAt y (by omega)]; simp [hyL]
                  have c10y : wr.cell? ⟨g10, y, none⟩ = some (.string (L[y]'hyL).v) := by
                    rw [z10.cellAt y (by omega)]; simp [hyL]
                  have y11 : wr.cell? ⟨b, 0, none⟩ = some (.int .i64 i) := by unfold World.cell?; rw [HZ.out.pi.at_]; rfl
                  have y3 : wr.cell? ⟨pa, 0, none⟩ = some (.slice (some ⟨sb, off, none⟩) len cap) := by unfold World.cell?; rw [HZ.out.pa.at_]; rfl
                  have yq : wr.cell? ⟨sb, off + i * 3 + 2, none⟩ = some (.int .i64 N) := by
                    have h1 := (HO.out.below HZ.out.bs.be).c2 i hlt
                    rw [hNN] at h1
                    exact h1
                  clear z9 z10
                  have hwr : wrap64 ((y : Int) + 1) = (y : Int) + 1 := by
                    have h1 := HS.out.mx
                    have h2 := HN.out
                    unfold wrap64; omega
                  have hm20 := HS.out.mx
                  have HM20 := hid hm20
                  clear hm20
                  have hkq : kp (L[y]'hyL).k = decide (P ≤ (L[y]'hyL).k) := by rw [HKE.out]
                  cases hd : decide (P ≤ (L[y]'hyL).k)
                  · rw [hd] at hkq
                    have HNO : Hid (∀ nq, P3 w (some ⟨sb, off, none⟩) len cap p rm m r pa b i KZ (wr.drewN nq) (.slice (some ⟨g9, 0, none⟩) n c9) (.slice (some ⟨g10, 0, none⟩) n c10) L tk tv kp (y + 1) u15 u16) := fun nq => (HZ.out.drewN nq).no hyL hkq
                    generalize (L[y]'hyL) = ty at c9y c10y hd
                    obtain ⟨ty1, ty2, ty3⟩ := ty
                    simp only at c9y c10y hd
                    clear hkq hyL
                    go_wp2_with fail
                    go_quiet ((go_at_call 10; exact Calls.quiet_of_same (HPN.out _)))
                    all_goals (
                      go_wp2
                      go_roundw
                      case rel => exact ⟨y + 1, KZ, by rw [hwr]; rfl, hyn, HNO.out nq⟩
                      case measure => exact meas hwr hy')
                  · rw [hd] at hkq
                    have HYE := hid (fun nq => (HZ.out.drewN nq).yes hyL hkq HM20.out HTZ.out.1)
                    have hk10 := HZ.out.vs.k g10 rfl
                    have hl10 := (HZ.out.vs.own.lt g10 rfl).2
                    have HK10 := hid (And.intro hk10 hl10)
                    generalize (L[y]'hyL) = ty at *
                    obtain ⟨ty1, ty2, ty3⟩ := ty
                    simp only at c9y c10y hd HYE
                    clear hkq hyL hk10 hl10
                    go_wp2_with fail
                    go_quiet ((go_at_call 10; exact Calls.quiet_of_same (HPN.out _)))
                    obtain ⟨v15, v16, w6, w8, KY, r6, r8, e1, e2, hp⟩ := HYE.out nq
                    have HP3 := hid hp
                    have d10 : w6.cell? ⟨g10, y, none⟩ = some (.string ty3) := (World.cell?_of_block (a := ⟨g10, y, none⟩) (e2 g10 (.inr HK10.out.1) HK10.out.2)).trans c10y
                    obtain ⟨w5, hw5⟩ : ∃ w5, (wr.drewN nq).alloc (.cells #[.int .i64 ty2] 3) = w5 := ⟨_, rfl⟩
                    obtain ⟨N5, hN5⟩ : ∃ N5, wr.heap.size = N5 := ⟨_, rfl⟩
                    obtain ⟨w7, hw7⟩ : ∃ w7, w6.alloc (.cells #[.string ty3] 9) = w7 := ⟨_, rfl⟩
                    obtain ⟨N6, hN6⟩ : ∃ N6, w6.heap.size = N6 := ⟨_, rfl⟩
                    rw [hw5, show (wr.drewN nq).heap.size = N5 from hN5] at r6
                    rw [hw7, hN6] at r8
                    have R6 := hid r6
                    have R8 := hid r8
                    clear r6 r8 e1 e2 hp HYE
                    go_wp2_with (at_builtin; refine Hid.out ?_)
                    refine (show Hid _ from ?_)
                    refine wpList_app rfl _ _ 26 rfl _ _ _ _ rfl rfl (R6.out _) ?_
                    go_wp2_with (at_builtin; refine Hid.out ?_)
                    refine (show Hid _ from ?_)
                    refine wpList_app rfl _ _ 53 rfl _ _ _ _ rfl rfl (R8.out _) ?_
                    go_wp2
                    go_roundw
                    case rel => exact ⟨y + 1, KY, by rw [hwr]; rfl, hyn, HP3.out⟩
                    case measure => exact meas hwr hy'
                · obtain rfl : y = n := by omega
                  have hz := HZ.out
                  have hl := hz.l
                  have hm := hz.m
                  rw [List.take_of_length_le (by rw [HN.out]; exact Nat.le_refl _)] at hl hm
                  obtain ⟨o15, c15, e15, _, _⟩ := hl.form
                  obtain ⟨o16, c16, e16, _, _⟩ := hm.form
                  obtain ⟨nw, hnw⟩ : ∃ nw, (wan kp L).length = nw := ⟨_, rfl⟩
                  have hsum := unw_wan kp L
                  have hmx := HS.out.mx
                  have hsub : wrap64 ((y : Int) - (nw : Int)) = (nu : Int) := by
                    have h1 := HNU.out
                    have h2 := HN.out
                    unfold wrap64; omega
                  rw [hnw] at e15 e16
                  subst e15 e16
                  have HE : Hid (∃ K' L' tk' tv', SB w (some ⟨sb, off, none⟩) len cap p rm m r pa b i K' wr (.slice o15 nw c15) (.slice o16 nw c16) L' tk' tv') := ⟨KZ, wan kp L, tk + tv + 20, tk + tv + 21, hz.bs, hz.ts, hl, hm, hz.pa, hz.pi, by have := HTZ.out.1; omega⟩
                  clear hz hl hm hsum hmx hnw HZ H4 HS HF HN HTZ HKE HNU hy hyn
                  go_wp2_with fail
                  go_meet
                  exact HE
            · have hk2 : (kd == 2) = false := by simp [hkd2]
              as_aux_lemma =>
              have q2 := HOr.out.c2 i hlt
              obtain ⟨w5, hw5⟩ : ∃ w5, wo.alloc (.cells #[.int .u8 ((O i).n % 256), .int .u8 ((i : Int) % 256)] 5) = w5 := ⟨_, rfl⟩
              obtain ⟨N5, hN5⟩ : ∃ N5, wo.heap.size = N5 := ⟨_, rfl⟩
              obtain ⟨X, hX⟩ := conv_two (w := w5.drew) (N := N5) (show w5.heap[N5]? = _ by rw [← hw5, ← hN5]; exact (MapKept.heap_alloc wo _).1)
              obtain ⟨K5, HS5⟩ : ∃ K5, Hid (SB w (some ⟨sb, off, none⟩) len cap p rm m r pa b i K5 w5.drew (.slice o9 n c9) (.slice o10 n c10) L tk tv) := by
                have v1 := HS.out.mv (Mv.alloc wo K (fun _ => 9) (.cells #[.int .u8 ((O i).n % 256), .int .u8 ((i : Int) % 256)] 5)) id id id id id id
                rw [hw5] at v1
                exact ⟨_, v1.drew⟩
              by_cases hfull : n < rm
              · have f1 : decide ((rm : Int) ≤ (n : Int)) = false := by simp; omega
                have f2 : decide (rm ≤ n) = false := by simp; omega
                have HP5 := hid (putI_new HS5.out.ts.sh k X HWF.out HFA.out (by have h2 := HN.out; omega))
                go_wp2_with fail
                go_region
                go_wp2_with fail
                refine HP5.out.mono ?_
                rintro _ w6 ⟨rfl, h1, c1⟩
                obtain ⟨K6, a1, a2, a3, a4, a5, a6⟩ := HS5.out.shelf h1 c1
                generalize w5.drew.heap.size = bq at a2
                obtain ⟨w7, hw7⟩ : ∃ w7, w6.alloc (.cells #[.int .i64 k] 3) = w7 := ⟨_, rfl⟩
                obtain ⟨N6, hN6⟩ : ∃ N6, w6.heap.size = N6 := ⟨_, rfl⟩
                have v7 := Mv.alloc w6 K6 (fun _ => 9) (.cells #[.int .i64 k] 3)
                rw [hw7] at v7
                have b7 : w7.heap[N6]? = some (.cells #[.int .i64 k] 3) := by rw [← hw7, ← hN6]; exact (MapKept.heap_alloc w6 _).1
                have tg := HS.out.tg
                have mx := HS.out.mx
                have hnL := HN.out
                have sz7 : w.heap.size ≤ w7.heap.size := Nat.le_trans a1.be.size v7.size
                obtain ⟨v9', w8, K8, r8, t8, v8⟩ := appI (a3.mv v7 id) sz7 ⟨N6, 0, none⟩ 1 1 [k] rfl (World.news_of_block b7) (by omega)
                obtain ⟨w9, hw9⟩ : ∃ w9, w8.alloc (.cells #[.string X] 9) = w9 := ⟨_, rfl⟩
                obtain ⟨N8, hN8⟩ : ∃ N8, w8.heap.size = N8 := ⟨_, rfl⟩
                have v9 := Mv.alloc w8 K8 (fun _ => 9) (.cells #[.string X] 9)
                rw [hw9] at v9
                have b9 : w9.heap[N8]? = some (.cells #[.string X] 9) := by rw [← hw9, ← hN8]; exact (MapKept.heap_alloc w8 _).1
                obtain ⟨v10', w10, K10, r10, t10, v10⟩ := appS (((a4.mv v7 id).mv v8 (by omega)).mv v9 id) (Nat.le_trans sz7 (Nat.le_trans v8.size v9.size)) ⟨N8, 0, none⟩ 1 1 [X] rfl (World.news_of_block b9) (by omega)
                have HZ : Hid (∃ K' L' tk' tv', SB w (some ⟨sb, off, none⟩) len cap p rm m r pa b i K' w10 v9' v10' L' tk' tv') := by
                  refine ⟨K10, L ++ [⟨bq, k, X⟩], tk, tv, ?_, ?_, ?_, ?_, ?_, ?_, tg⟩
                  · exact (((a1.mv v7 id).mv v8 (by omega)).mv v9 id).mv v10 (by omega)
                  · exact (((a2.mv v7 id).mv v8 (by omega)).mv v9 id).mv v10 (by omega)
                  · have := (t8.mv v9 id).mv v10 (by omega)
                    simpa using this
                  · simpa using t10
                  · exact (((a5.mv v7 id).mv v8 (by omega)).mv v9 id).mv v10 (by omega)
                  · exact (((a6.mv v7 id).mv v8 (by omega)).mv v9 id).mv v10 (by omega)
                have R8 := hid r8
                have R10 := hid r10
                clear h1 c1 a1 a2 a3 a4 a5 a6 v7 v8 v9 v10 b7 b9 t8 t10 r8 r10 tg mx hnL sz7
                go_upto_region 23 with fail
                go_wp2_with (at_builtin; refine Hid.out ?_)
                refine (show Hid _ from ?_)
                refine wpList_app rfl _ _ 26 rfl _ _ _ _ rfl rfl (R8.out _) ?_
                go_wp2_with (at_builtin; refine Hid.out ?_)
                refine (show Hid _ from ?_)
                refine wpList_app rfl _ _ 53 rfl _ _ _ _ rfl rfl (R10.out _) ?_
                go_wp2_with fail
                go_meet
                exact HZ
              · have f1 : decide ((rm : Int) ≤ (n : Int)) = true := by simp; omega
                have f2 : decide (rm ≤ n) = true := by simp; omega
                have HP5 := hid (putI_full HS5.out.ts.sh k X HWF.out HFA.out (by have h1 := HS5.out.ts.sh.len; have h2 := HN.out; omega))
                go_wp2_with fail
                go_region
                go_wp2_with fail
                refine HP5.out.mono ?_
                rintro _ w6 ⟨rfl, h1, c1⟩
                obtain ⟨K6, hy⟩ := HS5.out.same h1 c1
                have HY := hid hy
                have HZ := hid hy.next
                have x11 := hy.c11
                have hwi : wrap64 ((i : Int) + 1) = (i : Int) + 1 := by have h1 := HL.out; unfold wrap64; omega
                have HM2 := hid (numAt_is HZ.out.c11)
                clear h1 c1 hy
                go_wp2
                go_roundw
                case rel => exact ⟨_, i + 1, _, L, _, _, rfl, hlt, HZ.out⟩
                case measure => exact meas2 HM2.out HM0.out hlt
      case rest =>
      obtain ⟨KX, LX, tkX, tvX, hx⟩ := hcut.out
      obtain ⟨n', hn'⟩ : ∃ n', LX.length = n' := ⟨_, rfl⟩
      have HN' := hid hn'
      obtain ⟨o9', c9', e9', _, hg9'⟩ := hx.ks.form
      obtain ⟨o10', c10', e10', _, hg10'⟩ := hx.vs.form
      rw [hn'] at e9' e10' hg9' hg10'
      subst e9' e10'
      have HGX := hid (And.intro hg9' hg10')
      have HX := hid hx
      clear hg9' hg10' hcut hx hn' HS HF HN HJ HPK HPR HWF x11 x3 q0 q1 hc9 hc10
      have hrl : decide ((rm : Int) < (n' : Int)) = false := by have h1 := HX.out.ts.sh.len; have h2 := HN'.out; simp; omega
      have hrlN : decide (rm < n') = false := by have h1 := HX.out.ts.sh.len; have h2 := HN'.out; simp; omega
      go_wp2_with fail
      refine (keysI_any HX.out.ts.sh).mono ?_
      rintro _ w6 ⟨g6, c6, rfl, k1, c1⟩
      have HY := hid (HX.out.below c1 (fun _ => 9))
      generalize ext _ _ (fun _ => 9) = K6 at HY
      have HK6 := hid (own_mono k1 (Nat.zero_le _))
      rw [HN'.out]
      have x11 := HY.out.c11
      clear k1 c1
      go_wp2_with fail
      refine (lenI_any HY.out.ts.sh).mono ?_
      rintro _ wq ⟨rfl, hwq⟩
      have hwq2 := hwq.symm
      subst hwq2
      clear hwq
      rw [HN'.out]
      go_wp2_with fail
      go_loopw [23] (fun u23 wr => ∃ q : Nat, u23 = .int .i64 q ∧ q ≤ n' ∧ TQ w (some ⟨sb, off, none⟩) len cap p rm m r pa b i K6 wr (.slice o9' n' c9') (.slice o10' n' c10') LX tkX tvX 0 (.slice (some ⟨g6, 0, none⟩) n' c6)) (fun u23 _ => n' - (intOf u23).toNat)
      case atStart => exact ⟨0, rfl, Nat.zero_le _, HY.out, by rw [← HN'.out]; exact HK6.out⟩
      case round =>
        obtain ⟨q, rfl, hq, hy, hk6⟩ := hrel
        have HY := hid hy
        have HK6 := hid hk6
        obtain ⟨w7, hw7⟩ : ∃ w7, w7 = wr := ⟨_, rfl⟩
        subst hw7
        have x11 := HY.out.c11
        clear hy hk6
        by_cases hqn : q < n'
        · have hq' : (q : Int) < (n' : Int) := by omega
          have hqL : q < LX.length := by rw [HN'.out]; exact hqn
          obtain ⟨ga, hga⟩ := HGX.out.1 (by omega)
          obtain ⟨gb, hgb⟩ := HGX.out.2 (by omega)
          subst hga hgb
          have z1 : w7.cell? ⟨g6, q, none⟩ = some (.int .i64 (LX[q]'hqL).k) := by
            have h1 := HK6.out
            rw [HN'.out] at h1
            rw [h1.cellAt q (by omega), kcsI_map]
            simp [hqL]
          have z2 : w7.cell? ⟨ga, q, none⟩ = some (.int .i64 (LX[q]'hqL).k) := by
            have h1 := HY.out.ks.own
            rw [HN'.out] at h1
            rw [h1.cellAt q (by omega)]
            simp [hqL]
          have z3 : w7.cell? ⟨gb, q, none⟩ = some (.string (LX[q]'hqL).v) := by
            have h1 := HY.out.vs.own
            rw [HN'.out] at h1
            rw [h1.cellAt q (by omega)]
            simp [hqL]
          have HGE := hid (getI_some HY.out.ts.sh (t := LX[q]'hqL) (List.getElem_mem hqL))
          have hwr : wrap64 ((q : Int) + 1) = (q : Int) + 1 := by
            have h1 := HY.out.mx
            have h2 := HN'.out
            unfold wrap64; omega
          generalize (LX[q]'hqL) = tq at *
          obtain ⟨bq, kq, vq⟩ := tq
          simp only at z1 z2 z3 HGE
          clear hqL hq
          go_wp2_with fail
          refine HGE.out.mono ?_
          rintro _ wq ⟨rfl, hwq⟩
          have hwq2 := hwq.symm
          subst hwq2
          clear hwq HGE
          go_wp2_with fail
          have HT : Hid (∀ nq, TQ w (some ⟨sb, off, none⟩) len cap p rm m r pa b i K6 (w7.drewN nq) (.slice (some ⟨ga, 0, none⟩) n' c9') (.slice (some ⟨gb, 0, none⟩) n' c10') LX tkX tvX 0 (.slice (some ⟨g6, 0, none⟩) n' c6)) := fun nq => TQ.drewN ⟨HY.out, HK6.out⟩ nq
          go_quiet (fail)
          all_goals (
            go_wp2
            go_roundw
            case rel => exact ⟨q + 1, by rw [hwr]; rfl, hqn, HT.out _⟩
            case measure => exact meas hwr hq')
        · obtain rfl : q = n' := by omega
          have HZ := hid HY.out.next
          have hwi : wrap64 ((i : Int) + 1) = (i : Int) + 1 := by have h1 := HL.out; unfold wrap64; omega
          have HM2 := hid (numAt_is HZ.out.c11)
          go_wp2
          go_roundw
          case rel => exact ⟨_, i + 1, _, LX, _, _, rfl, hlt, HZ.out⟩
          case measure => exact meas2 HM2.out HM0.out hlt
    · obtain rfl : i = len := by omega
      have HE := hid HS.out.bs.be
      go_wp2
      go_ret
      exact ⟨rfl, HE.out⟩
end Go.Proofs.Ythhddpobnkmeaaa
