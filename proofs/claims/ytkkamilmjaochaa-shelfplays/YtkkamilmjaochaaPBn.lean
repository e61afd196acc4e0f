/- ShelfPlays: keeps. -/
import Derived.Test.YtkkamilmjaochaaPBm
namespace Go.Proofs.Ytkkamilmjaochaa
open Go.RowKit
set_option maxHeartbeats 4000000 in
set_option maxRecDepth 8000 in
theorem keeps_any {K : Nat → Nat} {w : World} {B β y p m r x most : Nat} {L D : List Pr} {A W : List As} {va vw : Value} (h : SD K w B β y p m r x most L D A W va vw) (hB : B ≤ w.heap.size) (o : OpP) (ho : I64 o.m ∧ I64 o.n) (k : KeyP) (v : Int) (hv : I64 v) (hV : ∀ z ∈ L, I64 z.v) (hA : A.length ≤ 1048576) :
    Calls Try.prog 62 #[ptr y, opV o, keyV k, .int .i64 v] w fun e w' => e = .returned (.bool (ansP o.n v A.length)) ∧ ∃ K' va', SD K' w' B β y p m r x most (actL most o.m A.length v L) D (A ++ [asOf o.m A.length k v L]) W va' vw ∧ Mv (TK β) w w' K K' := by
  obtain ⟨c, hc⟩ : ∃ c, A.length = c := ⟨_, rfl⟩
  obtain ⟨S0, hS0⟩ : ∃ S0, w.heap.size = S0 := ⟨_, rfl⟩
  obtain ⟨w0, hw0⟩ : ∃ w0, w.alloc (opB o) = w0 := ⟨_, rfl⟩
  obtain ⟨S1, hS1⟩ : ∃ S1, w0.heap.size = S1 := ⟨_, rfl⟩
  obtain ⟨w1, hw1⟩ : ∃ w1, w0.alloc (.cells #[.string k.s, .int .i64 k.n] 32) = w1 := ⟨_, rfl⟩
  obtain ⟨S2, hS2⟩ : ∃ S2, w1.heap.size = S2 := ⟨_, rfl⟩
  obtain ⟨wz, hwz⟩ : ∃ wz, w1.alloc (.cells #[.string ⟨#[]⟩, .int .i64 0] 32) = wz := ⟨_, rfl⟩
  obtain ⟨K1, hK1⟩ : ∃ K1, ext w0 (ext w K (fun _ => β + 10)) (fun _ => β + 11) = K1 := ⟨_, rfl⟩
  have m0 : Mv (fun _ => False) w w0 K (ext w K (fun _ => β + 10)) := by rw [← hw0]; exact Mv.alloc w K _ _
  have m1 : Mv (fun _ => False) w0 w1 (ext w K (fun _ => β + 10)) K1 := by rw [← hw1, ← hK1]; exact Mv.alloc w0 _ _ _
  have bo : TB K1 w1 (β + 10) S0 (opB o) := by
    have := TB.new w K (fun _ => β + 10) (opB o) (t := β + 10) rfl
    rw [hw0, hS0] at this
    exact this.mv m1 id
  have bk : TB K1 w1 (β + 11) S1 (.cells #[.string k.s, .int .i64 k.n] 32) := by
    have := TB.new w0 (ext w K (fun _ => β + 10)) (fun _ => β + 11) (.cells #[.string k.s, .int .i64 k.n] 32) (t := β + 11) rfl
    rw [hw1, hS1, hK1] at this
    exact this
  have h1 := (h.mv m0 id id id id id id).mv m1 id id id id id id
  obtain ⟨oa, cap, e1, _, _⟩ := h1.ask.form
  subst e1
  rw [hc] at h1
  have o6 : w1.cell? ⟨S0, 6, none⟩ = some (.int .i64 o.m) := by unfold World.cell?; rw [bo.at_]; rfl
  have y2 : w1.cell? ⟨y, 2, none⟩ = some (.slice oa c cap) := by unfold World.cell?; rw [h1.me.at_]; rfl
  have HM : Hid (Mv (fun _ => False) w w1 K K1) := m0.trans m1
  have HB0 := hid (And.intro bo bk)
  have HH := hid (And.intro h1 (And.intro hB (And.intro ho (And.intro hv (And.intro hV hA)))))
  have hwc : wrap64 ((c : Int) + 1) = (c : Int) + 1 := by unfold wrap64; omega
  have kz : wz.heap[S2]? = some (.cells #[.string ⟨#[]⟩, .int .i64 0] 32) := by rw [← hwz, ← hS2]; exact (MapKept.heap_alloc w1 _).1
  have bz : Below S2 w1 wz := by rw [← hwz, ← hS2]; exact (Below.refl _ _).alloc (Nat.le_refl _) _
  have y2z : wz.cell? ⟨y, 2, none⟩ = some (.slice oa c cap) := by rw [← hwz]; exact (World.cell?_of_block (a := ⟨y, 2, none⟩) (heap_alloc_old w1 _ h1.me.lt)).trans y2
  have o6z : wz.cell? ⟨S0, 6, none⟩ = some (.int .i64 o.m) := by rw [← hwz]; exact (World.cell?_of_block (a := ⟨S0, 6, none⟩) (heap_alloc_old w1 _ bo.lt)).trans o6
  have HZ := hid (And.intro kz bz)
  have HZ2 : Hid (S2 < wz.drew.heap.size ∧ wz.drew.cell? ⟨S2, 0, none⟩ = some (.string ⟨#[]⟩) ∧ wz.drew.cell? ⟨S2, 1, none⟩ = some (.int .i64 0) ∧ ∀ w2 : World, w2.heap[S2]? = wz.drew.heap[S2]? → ∀ n, w2.frozen? ⟨S2, n, none⟩ = false) := by
    have k2 : wz.drew.heap[S2]? = some (.cells #[.string ⟨#[]⟩, .int .i64 0] 32) := kz
    exact ⟨(Array.getElem?_eq_some_iff.1 k2).1, by unfold World.cell?; rw [k2]; rfl, by unfold World.cell?; rw [k2]; rfl, fun w2 e n => by unfold World.frozen?; rw [e, k2]; rfl⟩
  have HS2 := hid hS2
  rw [hc]
  clear h h1 hB ho hv hV hA m0 m1 bo bk hK1 kz bz
  go_enter Try.func62, Try.ntmps62
  go_upto_region 1 with fail
  obtain ⟨q, hq⟩ : ∃ q, keyW o.m c = q := ⟨_, rfl⟩
  have hsq : busyK o.m ((c : Int) + 1) = q := hq
  obtain ⟨zz, hzz⟩ : ∃ zz, pickP o.m 6 = zz := ⟨_, rfl⟩
  have HBU : Hid (∀ w, Calls Try.prog 68 #[.int .i64 o.m, .int .i64 (IntKind.i64.wrap ((c : Int) + 1))] w fun e w' => e = .returned (.tuple #[.int .i64 zz, keyV q]) ∧ Below w.heap.size w w') := fun w => by rw [IntWalk.i64_left, hwc, ← hsq, ← hzz]; exact busy_any w o.m _ HH.out.2.2.1.1
  have HQ := hid (And.intro hq hzz)
  clear hq hsq hzz
  go_cut [9, 10] (fun u9 u10 wc => ∃ A2, u9 = .int .i64 zz ∧ u10 = ptr A2 ∧ Hid (wc.heap[A2]? = some (.cells #[.string q.s, .int .i64 q.n] 32) ∧ S2 ≤ A2 ∧ Below S2 w1 wc))
  case first =>
    rename_i Q1 KR A2 J0 K9 A1 A0
    have HJ1 := hid A1
    have HJ0 := hid A0
    clear A2 A1 A0
    go_region_with (first
      | (go_at_call 68
         with_reducible refine (HBU.out _).mono ?_
         rintro _ w2 ⟨rfl, b2⟩
         try have z0 : w2.cell? ⟨S2, 0, none⟩ = some (.string ⟨#[]⟩) := (World.cell?_of_block (a := ⟨S2, 0, none⟩) (b2.block S2 HZ2.out.1)).trans HZ2.out.2.1
         try have z1 : w2.cell? ⟨S2, 1, none⟩ = some (.int .i64 0) := (World.cell?_of_block (a := ⟨S2, 1, none⟩) (b2.block S2 HZ2.out.1)).trans HZ2.out.2.2.1
         try have z2 : ∀ n, w2.frozen? ⟨S2, n, none⟩ = false := HZ2.out.2.2.2 w2 (b2.block S2 HZ2.out.1)
         have H2 := hid b2
         clear b2))
    all_goals (
      have A1 := HJ1.out
      have A0 := HJ0.out
      clear HJ1 HJ0
      go_wp2_with fail
      go_meet
      first
        | exact ⟨_, rfl, rfl, cutA HS2.out H2.out _⟩
        | exact ⟨_, rfl, rfl, cutB HZ.out.1 HZ.out.2 H2.out _ _⟩)
  case rest =>
    obtain ⟨A2, rfl, rfl, HC⟩ := hcut
    obtain ⟨K2, hK2⟩ : ∃ K2, ext w1 K1 (fun _ => β + 12) = K2 := ⟨_, rfl⟩
    have HP : Hid (KP K2 wc B β y p m r x most L D A W (.slice oa c cap) vw S0 o S1 k A2 q ∧ Mv (fun _ => False) w wc K K2) := by
      have hb := HC.out.2.2
      rw [← HS2.out] at hb
      have mv := Mv.of_below hb K1 (fun _ => β + 12)
      rw [hK2] at mv
      refine ⟨⟨HH.out.1.mv mv id id id id id id, HB0.out.1.mv mv id, HB0.out.2.mv mv id, ⟨HC.out.1, ?_⟩⟩, HM.out.trans mv⟩
      rw [← hK2]
      exact ext_new (by rw [HS2.out]; exact HC.out.2.1)
    have HR := hid HH.out.2
    clear o6 y2 y2z o6z hwz hw1 hS2 hw0 hS0 hS1 HC HZ HZ2 HH HB0 HM HBU hK2 HS2
    have y0 := HP.out.1.y0
    have q0 := HP.out.1.q0
    have q1 := HP.out.1.q1
    have HG : Hid (Calls Try.prog 41 #[ptr p, keyV q] wc.drew fun e w' => e = .returned (.tuple #[.int .i64 (getL L q), .bool (hasK L q)]) ∧ Below wc.heap.size wc w') := by
      show Calls Try.prog 41 _ _ _
      obtain ⟨Lt, e1, ts⟩ := HP.out.1.sd.sh
      rw [← e1]
      refine (getK_any (w := wc.drew) ((ts.mv (T := fun _ => False) (w' := wc.drew) (Mv.drew _ _ _) id).sh) q (by rw [← HQ.out.1]; exact busyK_ok _ _)).mono ?_
      rintro _ w' ⟨rfl, hb⟩
      exact ⟨rfl, ⟨hb.os, hb.tape, hb.output, hb.size, hb.block⟩⟩
    obtain ⟨wb, hwb⟩ : ∃ wb, wb = wc := ⟨_, rfl⟩
    subst hwb
    go_upto_region 2 with fail
    obtain ⟨gv, hgv⟩ : ∃ gv, getL L q = gv := ⟨_, rfl⟩
    obtain ⟨hv, hhv⟩ : ∃ hv, hasK L q = hv := ⟨_, rfl⟩
    rw [hgv, hhv] at HG
    have HGV := hid (And.intro hgv hhv)
    clear hgv hhv
    go_cut [11, 12] (fun u11 u12 wd => u11 = .int .i64 gv ∧ u12 = .bool hv ∧ Hid (Below wb.heap.size wb wd))
    case first =>
      rename_i Q1 KR A2 J0 K9 A1 A0
      have HJ1 := hid A1
      have HJ0 := hid A0
      clear A2 A1 A0
      go_region_with (first
        | (go_at_call 41
           with_reducible refine HG.out.mono ?_
           rintro _ w2 ⟨rfl, b2⟩
           have H2 := hid b2
           clear b2))
      all_goals (
        have A1 := HJ1.out
        have A0 := HJ0.out
        clear HJ1 HJ0
        go_wp2_with fail
        go_meet
        exact ⟨rfl, rfl, H2⟩)
    case rest =>
      obtain ⟨rfl, rfl, HD⟩ := hcut
      obtain ⟨wd, hwd⟩ : ∃ wd, wd = wc := ⟨_, rfl⟩
      subst hwd
      obtain ⟨K3, hK3⟩ : ∃ K3, ext wb K2 (fun _ => β + 13) = K3 := ⟨_, rfl⟩
      have HP3 : Hid (KP K3 wd B β y p m r x most L D A W (.slice oa c cap) vw S0 o S1 k A2 q ∧ Mv (fun _ => False) w wd K K3) := by
        have mv := Mv.of_below HD.out K2 (fun _ => β + 13)
        rw [hK3] at mv
        exact ⟨HP.out.1.mv mv (fun _ h => h.elim), HP.out.2.trans mv⟩
      clear HP HD HG hK3 y0 q0 q1
      obtain ⟨ln, hln⟩ : ∃ ln : Int, ((L.length : Nat) : Int) = ln := ⟨_, rfl⟩
      have HLN := hid hln
      have HLa : Hid (Calls Try.prog 50 #[ptr p] wd.drew fun e w' => e = .returned (.int .i64 ln) ∧ w' = wd.drew) := by
        obtain ⟨Lt, e1, ts⟩ := HP3.out.1.sd.sh
        have := lenK_any ((ts.mv (T := fun _ => False) (w' := wd.drew) (Mv.drew _ _ _) id).sh)
        rw [← prs_len, e1, hln] at this
        exact this
      have HLb : Hid (∀ ob, Calls Try.prog 50 #[ptr p] (wd.alloc ob).drew fun e w' => e = .returned (.int .i64 ln) ∧ w' = (wd.alloc ob).drew) := fun ob => by
        obtain ⟨Lt, e1, ts⟩ := HP3.out.1.sd.sh
        have := lenK_any (((ts.mv (Mv.alloc wd K3 (fun _ => 0) ob) id).mv (T := fun _ => False) (w' := (wd.alloc ob).drew) (Mv.drew _ _ _) id).sh)
        rw [← prs_len, e1, hln] at this
        exact this
      clear hln
      have y0 := HP3.out.1.y0
      have k0 := HP3.out.1.k0
      have k1 := HP3.out.1.k1
      have y0a : ∀ ob, (wd.alloc ob).cell? ⟨y, 0, none⟩ = some (ptr p) := fun ob => (World.cell?_of_block (a := ⟨y, 0, none⟩) (heap_alloc_old wd _ HP3.out.1.sd.me.lt)).trans y0
      have k0a : ∀ ob, (wd.alloc ob).cell? ⟨S1, 0, none⟩ = some (.string k.s) := fun ob => (World.cell?_of_block (a := ⟨S1, 0, none⟩) (heap_alloc_old wd _ HP3.out.1.bk.lt)).trans k0
      have k1a : ∀ ob, (wd.alloc ob).cell? ⟨S1, 1, none⟩ = some (.int .i64 k.n) := fun ob => (World.cell?_of_block (a := ⟨S1, 1, none⟩) (heap_alloc_old wd _ HP3.out.1.bk.lt)).trans k1
      have hb165 := fun w => bld165 w k.s k.n v ln
      go_upto_region 3 with fail
      go_cut [13] (fun u13 we => ∃ A3, u13 = ptr A3 ∧ Hid (we.heap[A3]? = some (.cells #[.string k.s, .int .i64 k.n, .int .i64 v, .int .i64 ln, .int .i64 0] 165) ∧ wd.heap.size ≤ A3 ∧ Below wd.heap.size wd we))
      case first =>
        rename_i Q1 KR A2 J0 K9 A1 A0
        have HJ1 := hid A1
        have HJ0 := hid A0
        clear A2 A1 A0
        go_region_with (first
          | (go_at_call 50
             with_reducible refine HLa.out.mono ?_
             rintro _ _ ⟨rfl, rfl⟩)
          | (go_at_call 50
             with_reducible refine (HLb.out _).mono ?_
             rintro _ _ ⟨rfl, rfl⟩))
        all_goals (
          have A1 := HJ1.out
          have A0 := HJ0.out
          clear HJ1 HJ0
          go_wp2_with fail
          go_meet
          exact ⟨_, rfl, cutC wd _⟩)
      case rest =>
        obtain ⟨A3, rfl, HE3⟩ := hcut
        obtain ⟨we, hwe⟩ : ∃ we, we = wc := ⟨_, rfl⟩
        subst hwe
        obtain ⟨K4, hK4⟩ : ∃ K4, ext wd K3 (fun _ => β + 13) = K4 := ⟨_, rfl⟩
        have HP4 : Hid (KP K4 we B β y p m r x most L D A W (.slice oa c cap) vw S0 o S1 k A2 q ∧ TB K4 we (β + 13) A3 (.cells #[.string k.s, .int .i64 k.n, .int .i64 v, .int .i64 ln, .int .i64 0] 165) ∧ Mv (fun _ => False) w we K K4) := by
          have mv := Mv.of_below HE3.out.2.2 K3 (fun _ => β + 13)
          rw [hK4] at mv
          refine ⟨HP3.out.1.mv mv (fun _ h => h.elim), ⟨HE3.out.1, ?_⟩, HP3.out.2.trans mv⟩
          rw [← hK4]
          exact ext_new HE3.out.2.1
        clear HP3 HE3 HLa HLb hK4 y0 k0 k1 y0a k0a k1a hb165
        have a4 : we.cell? ⟨A3, 4, none⟩ = some (.int .i64 0) := by unfold World.cell?; rw [HP4.out.2.1.at_]; rfl
        have fa : ∀ n, we.frozen? ⟨A3, n, none⟩ = false := fun n => by unfold World.frozen?; rw [HP4.out.2.1.at_]; rfl
        go_upto_if 43 with fail
        go_cut [43] (fun _ wf => Hid (KP K4 wf B β y p m r x most L D A W (.slice oa c cap) vw S0 o S1 k A2 q ∧ TB K4 wf (β + 13) A3 (.cells #[.string k.s, .int .i64 k.n, .int .i64 v, .int .i64 ln, .int .i64 gv] 165) ∧ Mv (TK β) w wf K K4))
        case first =>
          cases hv
          · have HF : Hid (KP K4 we B β y p m r x most L D A W (.slice oa c cap) vw S0 o S1 k A2 q ∧ TB K4 we (β + 13) A3 (.cells #[.string k.s, .int .i64 k.n, .int .i64 v, .int .i64 ln, .int .i64 gv] 165) ∧ Mv (TK β) w we K K4) := by
              have : gv = 0 := by rw [← HGV.out.1]; exact getL_hasK HGV.out.2
              rw [this]
              exact ⟨HP4.out.1, HP4.out.2.1, HP4.out.2.2.mono (fun _ h => h.elim)⟩
            clear HP4
            go_wp2
            go_meet
            exact HF
          · have HF : Hid (KP K4 (we.setCell ⟨A3, 4, none⟩ (.int .i64 gv)) B β y p m r x most L D A W (.slice oa c cap) vw S0 o S1 k A2 q ∧ TB K4 (we.setCell ⟨A3, 4, none⟩ (.int .i64 gv)) (β + 13) A3 (.cells #[.string k.s, .int .i64 k.n, .int .i64 v, .int .i64 ln, .int .i64 gv] 165) ∧ Mv (TK β) w (we.setCell ⟨A3, 4, none⟩ (.int .i64 gv)) K K4) := by
              have mv := Mv.of_set we K4 ⟨A3, 4, none⟩ (.int .i64 gv) HP4.out.2.1.k
              refine ⟨HP4.out.1.mv mv (fun _ h => h), ⟨?_, HP4.out.2.1.k⟩, (HP4.out.2.2.mono (fun _ h => h.elim)).trans (mv.mono (fun _ h => .inr (.inr (.inr (.inr (.inr h))))))⟩
              unfold World.setCell; simp [Array.getElem?_modify, HP4.out.2.1.at_]
            clear HP4
            go_wp2
            go_meet
            exact HF
        case rest =>
          have HF := hcut
          clear hcut HP4 a4 fa
          obtain ⟨wf, hwf⟩ : ∃ wf, wf = wc := ⟨_, rfl⟩
          subst hwf
          have hBf : B ≤ wf.heap.size := Nat.le_trans HR.out.1 HF.out.2.2.size
          obtain ⟨oa', c', wA, K5, r1, cy, fy, hkp, mv5⟩ := HF.out.1.asked hBf ⟨k, v, ln, gv⟩ HR.out.2.2.2.2
          obtain ⟨SN, hSN⟩ : ∃ SN, wf.heap.size = SN := ⟨_, rfl⟩
          have f0 : wf.cell? ⟨A3, 0, none⟩ = some (.string k.s) := by unfold World.cell?; rw [HF.out.2.1.at_]; rfl
          have f1 : wf.cell? ⟨A3, 1, none⟩ = some (.int .i64 k.n) := by unfold World.cell?; rw [HF.out.2.1.at_]; rfl
          have f2 : wf.cell? ⟨A3, 2, none⟩ = some (.int .i64 v) := by unfold World.cell?; rw [HF.out.2.1.at_]; rfl
          have f3 : wf.cell? ⟨A3, 3, none⟩ = some (.int .i64 ln) := by unfold World.cell?; rw [HF.out.2.1.at_]; rfl
          have f4 : wf.cell? ⟨A3, 4, none⟩ = some (.int .i64 gv) := by unfold World.cell?; rw [HF.out.2.1.at_]; rfl
          have yy := HF.out.1.y2
          obtain ⟨wB, hwB⟩ : ∃ wB, wf.alloc (.cells #[.string k.s, .int .i64 k.n, .int .i64 v, .int .i64 ln, .int .i64 gv] 165) = wB := ⟨_, rfl⟩
          have yb : wB.cell? ⟨y, 2, none⟩ = some (.slice oa c cap) := by rw [← hwB]; exact (World.cell?_of_block (a := ⟨y, 2, none⟩) (heap_alloc_old wf _ HF.out.1.sd.me.lt)).trans yy
          have hal : A.length = c := hc
          rw [hal] at r1 hkp mv5
          simp only at r1
          rw [hwB, hSN] at r1
          have R1 := hid r1
          have HK5 : Hid (KP K5 (wA.setCell ⟨y, 2, none⟩ (.slice oa' (c + 1) c')) B β y p m r x most L D (A ++ [⟨k, v, ln, gv⟩]) W (.slice oa' (c + 1) c') vw S0 o S1 k A2 q ∧ Mv (TK β) w (wA.setCell ⟨y, 2, none⟩ (.slice oa' (c + 1) c')) K K5) := ⟨hkp, HF.out.2.2.trans mv5⟩
          have hb37 := fun w => bls37 w k.s k.n v ln gv
          clear r1 hkp mv5 HF hBf hal
          go_upto_region 6 with fail
          go_cut [53] (fun _ wg => Hid (wg = wA.setCell ⟨y, 2, none⟩ (.slice oa' (c + 1) c')))
          case first =>
            rename_i Q1 KR A2 J0 K9 A1 A0
            have HJ1 := hid A1
            have HJ0 := hid A0
            clear A2 A1 A0
            generalize k.s = ks at *
            generalize k.n = kn at *
            go_region_law (first
              | (refine step_app rfl (.tmp 50) (.tmp 52) 37 rfl (.slice oa c cap) (.slice (some ⟨SN, 0, none⟩) 1 1) _ _ (by go_simp) (by go_simp) (R1.out _) ?_))
            all_goals (
              have A1 := HJ1.out
              have A0 := HJ0.out
              clear HJ1 HJ0
              go_wp2_with fail
              go_meet
              exact rfl)
          case rest =>
            have hwg := hcut.out
            obtain ⟨wg, hwg2⟩ : ∃ wg, wg = wc := ⟨_, rfl⟩
            subst hwg2
            rw [← hwg] at HK5
            clear hcut hwg R1 cy fy yy yb f0 f1 f2 f3 f4 hwB hSN hb37
            obtain ⟨AA, hAA⟩ : ∃ AA, A ++ [(⟨k, v, ln, gv⟩ : As)] = AA := ⟨_, rfl⟩
            have HAA : Hid (A ++ [asOf o.m c k v L] = AA) := by
              show _ = _
              rw [← hAA, ← HLN.out, ← HGV.out.1, ← HQ.out.1]
              rfl
            rw [hAA] at HK5
            clear hAA
            obtain ⟨L', hL'⟩ : ∃ L', actL most o.m c v L = L' := ⟨_, rfl⟩
            have HL' := hid hL'
            clear hL'
            have HACT : Hid (∀ b1 b2 b3 : Bool, (zz == 1) = b1 → (zz == 2) = b2 → (zz == 3) = b3 → L' = (if b1 then putL most L q (wrap64 (-v)) else if b2 then dropL L q else if b3 then takesL L (goneW L) else L)) := fun b1 b2 b3 h1 h2 h3 => by
              rw [← HL'.out]
              unfold actL
              rw [HQ.out.1, HQ.out.2, ← h1, ← h2, ← h3]
              simp only [beq_iff_eq]
            have HSH : Hid (∃ Lt, prs Lt = L ∧ TS kdK K5 wg (β + 3) p most m r Lt) := HK5.out.1.sd.sh
            have HKO : Hid (KOk q) := by
              have := busyK_ok o.m ((c : Int) + 1)
              show KOk q
              rw [← HQ.out.1]
              exact this
            have HFIN : Hid (∀ (T : Nat → Prop) w' K' Lt, Mv T wg w' K5 K' → (∀ t, T t → t = β + 3 ∨ t = β + 6 ∨ t = β + 7) → prs Lt = L' → TS kdK K' w' (β + 3) p most m r Lt → Hid (∃ K6, KP K6 w' B β y p m r x most L' D AA W (.slice oa' (c + 1) c') vw S0 o S1 k A2 q ∧ Mv (TK β) w w' K K6)) := fun T w' K' Lt mv ht hp hts =>
              ⟨K', HK5.out.1.shelf mv ht ⟨Lt, hp, hts⟩, HK5.out.2.trans (mv.mono (fun t h => by rcases ht t h with e | e | e <;> simp [TK, e]))⟩
            have y0 := HK5.out.1.y0
            have q0 := HK5.out.1.q0
            have q1 := HK5.out.1.q1
            go_upto_block 0 with fail
            go_cut [57] (fun _ wh => Hid (∃ K6, KP K6 wh B β y p m r x most L' D AA W (.slice oa' (c + 1) c') vw S0 o S1 k A2 q ∧ Mv (TK β) w wh K K6))
            case first =>
              cases z1 : (zz == 1)
              · cases z2 : (zz == 2)
                · cases z3 : (zz == 3)
                  · have HE : Hid (∃ K6, KP K6 wg B β y p m r x most L' D AA W (.slice oa' (c + 1) c') vw S0 o S1 k A2 q ∧ Mv (TK β) w wg K K6) := by
                      obtain ⟨Lt, e1, ts⟩ := HSH.out
                      exact HFIN.out (fun _ => False) wg K5 Lt (Mv.refl _ _ _) (fun _ h => h.elim) (by rw [e1]; have := HACT.out _ _ _ z1 z2 z3; simpa using this.symm) ts
                    clear HSH HFIN HACT
                    go_wp2
                    go_meet
                    exact HE
                  · have HC : Hid (Calls Try.prog 60 #[ptr p, .func (.func 69) #[] #[]] wg fun e w' => ∃ u, e = .returned u ∧ Hid (∃ K6, KP K6 w' B β y p m r x most L' D AA W (.slice oa' (c + 1) c') vw S0 o S1 k A2 q ∧ Mv (TK β) w w' K K6)) := by
                      obtain ⟨Lt, e1, ts⟩ := HSH.out
                      refine (pruneW (τ := β + 6) (σ := β + 7) ts (by omega) (by omega) (by omega) (by rw [e1]; exact HR.out.2.2.2.1)).mono ?_
                      rintro _ w' ⟨u, rfl, K', Lt', hts, hp, mv⟩
                      refine ⟨u, rfl, HFIN.out _ w' K' Lt' mv (fun t h => by rcases h with (h | h) | h <;> simp [h]) ?_ hts⟩
                      rw [hp, e1]
                      have := HACT.out _ _ _ z1 z2 z3
                      simpa using this.symm
                    clear HSH HFIN HACT
                    go_wp2_with fail
                    refine HC.out.mono ?_
                    rintro _ w' ⟨u, rfl, HE⟩
                    go_wp2
                    go_meet
                    exact HE
                · have HC : Hid (Calls Try.prog 43 #[ptr p, keyV q] wg.drew fun e w' => ∃ u, e = .returned u ∧ Hid (∃ K6, KP K6 w' B β y p m r x most L' D AA W (.slice oa' (c + 1) c') vw S0 o S1 k A2 q ∧ Mv (TK β) w w' K K6)) := by
                    obtain ⟨Lt, e1, ts⟩ := HSH.out
                    have md : Mv (fun _ => False) wg wg.drew K5 K5 := Mv.drew _ _ _
                    refine (dropK_any (ts.mv md id).sh q HKO.out).mono ?_
                    rintro _ w' ⟨rfl, Lt', hp, hs, hc⟩
                    obtain ⟨K', hts, mv⟩ := (ts.mv md id).chg hs hc
                    refine ⟨_, rfl, HFIN.out (fun y => y = β + 3) w' K' Lt' ((md.mono (fun _ h => h.elim)).trans mv) (fun t h => .inl h) ?_ hts⟩
                    rw [hp, e1]
                    have := HACT.out _ _ _ z1 z2 rfl
                    simpa using this.symm
                  clear HSH HFIN HACT
                  go_wp2_with fail
                  rename_i Q1 KR A2 J0 K9 A1 A0
                  have HJ1 := hid A1
                  have HJ0 := hid A0
                  clear A2 A1 A0
                  go_region_with (first
                    | (go_at_call 43
                       with_reducible refine HC.out.mono ?_
                       rintro _ w' ⟨u, rfl, HE⟩))
                  all_goals (
                    have A1 := HJ1.out
                    have A0 := HJ0.out
                    clear HJ1 HJ0
                    go_wp2
                    go_meet
                    exact HE)
              · have HC : Hid (Calls Try.prog 39 #[ptr p, keyV q, .int .i64 (IntKind.i64.wrap (-v))] wg.drew fun e w' => ∃ u, e = .returned u ∧ Hid (∃ K6, KP K6 w' B β y p m r x most L' D AA W (.slice oa' (c + 1) c') vw S0 o S1 k A2 q ∧ Mv (TK β) w w' K K6)) := by
                  obtain ⟨Lt, e1, ts⟩ := HSH.out
                  have md : Mv (fun _ => False) wg wg.drew K5 K5 := Mv.drew _ _ _
                  refine (putK_any (ts.mv md id).sh q HKO.out _).mono ?_
                  rintro _ w' ⟨rfl, Lt', hp, hs, hc⟩
                  obtain ⟨K', hts, mv⟩ := (ts.mv md id).chg hs hc
                  refine ⟨_, rfl, HFIN.out (fun y => y = β + 3) w' K' Lt' ((md.mono (fun _ h => h.elim)).trans mv) (fun t h => .inl h) ?_ hts⟩
                  rw [hp, e1, IntWalk.i64_left]
                  have := HACT.out _ _ _ z1 rfl rfl
                  simpa using this.symm
                clear HSH HFIN HACT
                go_wp2_with fail
                rename_i Q1 KR A2 J0 K9 A1 A0
                have HJ1 := hid A1
                have HJ0 := hid A0
                clear A2 A1 A0
                go_region_with (first
                  | (go_at_call 39
                     with_reducible refine HC.out.mono ?_
                     rintro _ w' ⟨u, rfl, HE⟩))
                all_goals (
                  have A1 := HJ1.out
                  have A0 := HJ0.out
                  clear HJ1 HJ0
                  go_wp2
                  go_meet
                  exact HE)
            case rest =>
              obtain ⟨K6, hk6, mv6⟩ := hcut.out
              obtain ⟨wh, hwh⟩ : ∃ wh, wh = wc := ⟨_, rfl⟩
              subst hwh
              have o5 := hk6.o5
              have y2 := hk6.y2
              have HE : Hid (∀ n, ∃ K' va', SD K' (wh.drewN n) B β y p m r x most (actL most o.m c v L) D (A ++ [asOf o.m c k v L]) W va' vw ∧ Mv (TK β) w (wh.drewN n) K K') := fun n => by
                rw [HL'.out, HAA.out]
                have md : Mv (fun _ => False) wh (wh.drewN n) K6 K6 := ⟨rfl, rfl, rfl, Nat.le_refl _, fun _ _ => rfl, fun _ _ _ => rfl⟩
                exact ⟨K6, _, hk6.sd.mv md id id id id id id, mv6.trans (md.mono (fun _ h => h.elim))⟩
              obtain ⟨pk, hpk⟩ : ∃ pk, pickP (wrap64 (wrap64 (o.n + v) + ((c : Int) + 1))) 3 = pk := ⟨_, rfl⟩
              have HPN : Hid (∀ (w : World), Calls Try.prog 10 #[.int .i64 (wrap64 (wrap64 (o.n + v) + ((c : Int) + 1))), .int .i64 3] w fun e w' => e = .returned (.int .i64 pk) ∧ w' = w) := fun w => by
                rw [← hpk]
                exact pick_any _ 3 w (wrap64_in _).1 (wrap64_in _).2 (by omega) (by omega)
              have HANS : Hid (ansP o.n v c = decide (0 < pk)) := by show _ = _; unfold ansP; rw [hpk]
              clear hpk
              clear hcut hk6 mv6 HK5 HACT HSH HKO HFIN y0 q0 q1 HL' HAA HR HQ HGV HLN hwc hc
              go_wp2_with fail
              go_quiet ((go_at_call 10; exact Calls.quiet_of_same (HPN.out _)))
              go_wp2
              go_ret
              exact ⟨by rw [HANS.out]; rfl, HE.out _⟩
end Go.Proofs.Ytkkamilmjaochaa
