/- ClientOnce: acts, Call. ClientOnce: acts, any datagram. ClientOnce: a step's kinds together. -/
import Derived.Test.YtfcbjcebkahehaaGreatDoorZbw
namespace Go.Proofs.YtfcbjcebkahehaaGreatDoor.Cl
open Go.RowKit
section
variable {K K' : Nat → Nat} {w w' : World} {B t p xb S S1 S2 : Nat} {c : Cf} {oa : Option Addr} {cap : Nat} {next now : Int} {L : List Wt} {D R : List Oc} {vw vd v : Value} {q : Mq} {vi : Value} {I : List Is} {n1 n2 : Int}
theorem bld99 (a b : Int) (w : World) : (Instr.build 99 #[(0, .int .i64 a), (1, .int .i64 b)]).run Tryz.prog w = .ok (.agg #[.int .i64 a, .int .i64 b, .int .i64 0, .bool false]) w := by kernel_rfl
theorem bls61 (a b d : Int) (e : Bool) (w : World) : (Instr.buildSlice 61 1 #[(0, .agg #[.int .i64 a, .int .i64 b, .int .i64 d, .bool e])]).run Tryz.prog w = .ok (.slice (some ⟨w.heap.size, 0, none⟩) 1 1) (w.alloc (.cells #[.int .i64 a, .int .i64 b, .int .i64 d, .bool e] 99)) := by kernel_rfl
set_option maxRecDepth 8000 in
set_option maxHeartbeats 8000000 in
theorem LF.acts_call (h : LF K w B t p xb c oa cap next now L [] vw vd q vi I n1 n2) (N : Int) (s : ByteArray) (hN : -9223372036854775808 ≤ N ∧ N ≤ 9223372036854775807) (hI : I.length + 1 ≤ 50000000) (hn : now + 1 ≤ 100000000) (hs : s.size ≤ 281474976710656) :
    Calls Tryz.prog 15 #[ptr xb, .agg #[.int .i64 0, .int .i64 N, .string s], .agg #[.int .i64 c.pb, .int .i64 c.pc, .int .i64 c.pt], .int .i64 c.win] w fun e w' => e = .returned (.bool true) ∧ Hid (∃ K' next' now' L' D' vw' vd' q' vi' I' n2', LF K' w' B t p xb c oa cap next' now' L' D' vw' vd' q' vi' I' n1 n2' ∧ (I'.length ≤ I.length + 1 ∧ now' ≤ now + 1 ∧ D'.length ≤ 50000000) ∧ Mv (fun u => t ≤ u) w w' K K') := by
  obtain ⟨mI, hmI⟩ : ∃ m, I.length = m := ⟨_, rfl⟩
  obtain ⟨w2, hw2⟩ : ∃ y, (w.alloc (.cells #[.int .i64 0, .int .i64 N, .string s] 66)).alloc (.cells #[.int .i64 c.pb, .int .i64 c.pc, .int .i64 c.pt] 23) = y := ⟨_, rfl⟩
  obtain ⟨K2, kk, BE⟩ := h.beg 0 N s hN hmI hw2
  obtain ⟨S1, hS1⟩ : ∃ y, w.heap.size = y := ⟨_, rfl⟩
  obtain ⟨w1, hw1⟩ : ∃ y, w.alloc (.cells #[.int .i64 0, .int .i64 N, .string s] 66) = y := ⟨_, rfl⟩
  obtain ⟨S2, hS2⟩ : ∃ y, w1.heap.size = y := ⟨_, rfl⟩
  have hS12 : w.heap.size + 1 = S2 := by rw [← hS2, ← hw1]; simp
  rw [hw1] at hw2
  rw [hS12, hS1] at BE
  obtain ⟨oI, cI, evi, _, hgI⟩ := h.is.form
  rw [hmI] at evi
  subst evi
  have a1 : w2.cell? ⟨S1, 1, none⟩ = some (.int .i64 N) := cell_at BE.ac.a.at_ rfl
  have x1 : w2.cell? ⟨xb, 1, none⟩ = some (.slice oI mI cI) := BE.ac.lf.ce0.2.1
  have HPk := hid BE.pk
  have HOf := hid BE.of_
  have HPr := hid BE.pr
  have hkk := BE.kle
  have hmB : (mI : Int) ≤ 50000000 := by omega
  obtain ⟨mj, hmj⟩ : ∃ mj : Int, (mI : Int) + 1 = mj := ⟨_, rfl⟩
  have b1 : -9223372036854775808 ≤ (mI : Int) + 1 ∧ (mI : Int) + 1 ≤ 9223372036854775807 := by omega
  obtain ⟨nn, hnn⟩ : ∃ nn : Int, 9 + (kk : Int) = nn := ⟨_, rfl⟩
  have b2 : -9223372036854775808 ≤ 9 + (kk : Int) ∧ 9 + (kk : Int) ≤ 9223372036854775807 := by omega
  obtain ⟨kv, hkv⟩ : ∃ kv : Int, (if kk < mI then (kk : Int) else -1) = kv := ⟨_, rfl⟩
  have hkvi : Hid ((kk < mI ∧ kv = kk ∧ nn = 9 + kk) ∨ (kk = mI ∧ kv = -1 ∧ nn = 9 + kk)) := by
    rw [← hkv, ← hnn]
    by_cases e : kk < mI
    · exact .inl ⟨e, if_pos e, rfl⟩
    · exact .inr ⟨by omega, if_neg e, rfl⟩
  have hw9 : isW nn := by unfold isW; omega
  obtain ⟨txt, htxt⟩ : ∃ txt : ByteArray, (⟨(repR nn).lay.toArray⟩ : ByteArray) = txt := ⟨_, rfl⟩
  have HT := hid (And.intro htxt (And.intro hw9 (And.intro hmI (And.intro hI (And.intro hn (And.intro hs h))))))
  have HG := hid hgI
  rw [hmj] at HPk
  rw [hkv] at HOf
  have HPr : Hid (∀ w' K', AC K' w' B t p xb S1 S2 c oa cap next now L vw vd q (.slice oI mI cI) I n1 n2 0 N s → Calls Tryz.prog 49 #[.agg #[.int .i64 nn, .bool false, .int .i64 0, .string ⟨#[]⟩, .int .i64 0, .int .i64 0, .int .i64 0, .int .i64 0, .int .i64 0, .string ⟨#[119, 120, 121, 122]⟩]] w' fun e w'' => e = .returned (.tuple #[.string txt, .int .i64 0]) ∧ Hid (∃ K'', AC K'' w'' B t p xb S1 S2 c oa cap next now L vw vd q (.slice oI mI cI) I n1 n2 0 N s ∧ Mv (fun u => t ≤ u) w' w'' K' K'')) := fun w' K' a' => by
    have := HPr.out w' K' a'
    rw [hnn, htxt] at this
    exact this
  rw [hnn] at HOf
  have hb46 := fun nn w => bld46r nn w
  have hr1 : IntKind.i64.wrap ((mI : Int) + 1) = mj := by rw [IntWalk.i64_left, wrap_in b1, hmj]
  have hr1' : wrap64 ((mI : Int) + 1) = mj := by rw [wrap_in b1, hmj]
  have hr2 : IntKind.i64.wrap (9 + (kk : Int)) = nn := by rw [IntWalk.i64_left, wrap_in b2, hnn]
  have hr2' : wrap64 (9 + (kk : Int)) = nn := by rw [wrap_in b2, hnn]
  clear h BE hgI hN hmI hI hn hs hS12 hkk hmB hmj b1 b2 hnn hkv hw9 htxt
  go_enter Tryz.func15, Tryz.ntmps15
  go_wp2_with fail
  go_quiet ((go_at_call 10; exact Calls.quiet_of_same (HPk.out _)))
  go_wp2_with fail
  refine (HOf.out _).mono ?_
  rintro _ w3 ⟨rfl, A3, m3⟩
  clear HPk HOf a1 x1 hr1 hr1' hr2 hr2'
  have x1 : w3.cell? ⟨xb, 1, none⟩ = some (.slice oI mI cI) := A3.lf.ce0.2.1
  have H49 := hid (HPr.out w3 K2 A3)
  have HM3 := hid (And.intro A3 m3)
  clear HPr m3
  rcases hkvi.out with ⟨hlt, rfl, hnk⟩ | ⟨hke, rfl, hnk⟩
  · obtain ⟨gI, rfl⟩ := HG.out (by rw [HT.out.2.2.1]; omega)
    obtain ⟨i, hi⟩ : ∃ i, I[kk]? = some i := ⟨_, List.getElem?_eq_getElem (by rw [HT.out.2.2.1]; omega)⟩
    obtain ⟨ib, hib⟩ : ∃ ib, i.over = ib := ⟨_, rfl⟩
    have y3 : w3.cell? ⟨gI, kk * 4 + 3, none⟩ = some (.bool ib) := by rw [← hib]; exact (A3.lf.is.is4 HT.out.2.2.1 hi).2.2.2
    have hk0 : decide ((0 : Int) ≤ (kk : Int)) = true := decide_eq_true (by omega)
    have hkm : (kk : Int) < (mI : Int) := by omega
    have hkm0 : (0 : Int) ≤ (kk : Int) := by omega
    obtain ⟨wb, hwb⟩ : ∃ wb, (!ib) = wb := ⟨_, rfl⟩
    have HW : Hid (wb = true ↔ ∃ y ∈ L, y.seq = nn) := by
      have hnum := A3.lf.om.num kk i hi
      refine ⟨fun e => ?_, fun ⟨y, hy, ey⟩ => ?_⟩
      · have hf : i.over = false := by rw [hib]; rw [e] at hwb; simpa using hwb
        rcases A3.lf.om.all kk i hi hf with ⟨x, hx, ex⟩ | ⟨d, hd, _⟩
        · exact ⟨x, hx, by omega⟩
        · cases hd
      · obtain ⟨k', i', b1, b2, b3, b4⟩ := A3.lf.om.wt y hy
        obtain ⟨_, e2⟩ := A3.lf.om.same_at b1 hi (by have := b3.seq; omega)
        rw [← hwb, ← hib, ← e2, b2]; rfl
    clear A3 hi hib hlt hnk
    go_wp2_with fail
    refine H49.out.mono ?_
    rintro _ w4 ⟨rfl, H4⟩
    clear H49
    obtain ⟨K4, A4, m4⟩ := H4.out
    have am := HM3.out.2.trans m4
    have a0 : w4.cell? ⟨S1, 0, none⟩ = some (.int .i64 0) := cell_at A4.a.at_ rfl
    have z0 : w4.cell? ⟨xb, 0, none⟩ = some (ptr p) := A4.lf.ce0.1
    have z1 := A4.lf.ce0.2.1
    have hwat := A4.lf.om.water A4.lf.hc.w1
    have hnx := A4.lf.om.nxt
    rw [HT.out.2.2.1] at hnx
    have hmB : mI ≤ 50000000 := by have := HT.out.2.2.2.1; rw [HT.out.2.2.1] at this; omega
    have hw1 := A4.lf.hc.w2
    obtain ⟨wt, hwt⟩ : ∃ wt, waterL next L = wt := ⟨_, rfl⟩
    rw [hwt] at hwat
    have HWa : Hid (∀ k, Calls Tryz.prog 23 #[ptr p] (w4.drewN k) fun e w' => e = .returned (.int .i64 wt) ∧ w' = w4.drewN k) := fun k => by rw [← hwt]; exact (A4.to (mv_drewN w4 K4 k) (fun _ e => e.elim)).lf.pc.water_any
    have b1 : -9223372036854775808 ≤ 9 + (mI : Int) ∧ 9 + (mI : Int) ≤ 9223372036854775807 := by omega
    obtain ⟨df, hdf⟩ : ∃ df, next - wt = df := ⟨_, rfl⟩
    have b2 : -9223372036854775808 ≤ next - wt ∧ next - wt ≤ 9223372036854775807 := by omega
    obtain ⟨lt, hlt⟩ : ∃ lt, decide (df < c.win) = lt := ⟨_, rfl⟩
    have HCall : Hid (∀ k, (lt = false → Calls Tryz.prog 19 #[ptr p, .int .i64 65636, .int .i64 7, .int .i64 1, .int .i64 2, .string ⟨#[97, 98, 99, 100]⟩] (w4.drewN k) fun e w' => e = .returned (.tuple #[.int .i64 0, .int .i64 171]) ∧ Hid (∃ K' next' now' L' D' vw' vd' q' vi' I' n2', LF K' w' B t p xb c oa cap next' now' L' D' vw' vd' q' vi' I' n1 n2' ∧ (I'.length ≤ I.length + 1 ∧ now' ≤ now + 1 ∧ D'.length ≤ 50000000) ∧ Mv (fun u => t ≤ u) w w' K K')) ∧
        (lt = true → Calls Tryz.prog 19 #[ptr p, .int .i64 65636, .int .i64 7, .int .i64 1, .int .i64 2, .string ⟨#[97, 98, 99, 100]⟩] (w4.drewN k) fun e w' => e = .returned (.tuple #[.int .i64 next, .int .i64 0]) ∧ Hid (∃ K5 x vw5 vd5, PC K5 w' B t p c oa cap (next + 1) now (L ++ [x]) [] vw5 vd5 q ∧ TB K5 w' (t + 20) xb (lfB p (.slice (some ⟨gI, 0, none⟩) mI cI) n1 n2) ∧ RW 99 4 isC K5 w' B (t + 21) (.slice (some ⟨gI, 0, none⟩) mI cI) I ∧ OM c now (next + 1) (I ++ [⟨next, now, 0, false⟩]) (L ++ [x]) [] n1 n2 ∧ Mv (fun u => t ≤ u) w w' K K5))) := fun k => by
      have AK := A4.to (mv_drewN w4 K4 k) (fun _ e => e.elim)
      have amk := am.trans ((mv_drewN w4 K4 k).mono (fun _ e => e.elim))
      have hx : -1000000000000 ≤ next ∧ next ≤ 1000000000000 := by omega
      have hy : -1000000000000 ≤ waterL next L ∧ waterL next L ≤ 1000000000000 := by rw [hwt]; omega
      have hargs : argsB 65636 7 1 2 = true := by decide
      refine ⟨fun e => ?_, fun e => ?_⟩
      · have hge : c.win ≤ next - wt := by rw [e] at hlt; have := of_decide_eq_false hlt; omega
        have hr : refP c.win next (waterL next L) 65636 7 1 2 4 = 171 := by
          unfold refP
          rw [if_pos hargs, if_neg (by decide), hwt, if_pos hge]
        refine (AK.lf.pc.call_no 65636 7 1 2 ⟨#[97, 98, 99, 100]⟩ 171 hx hy hr (by decide)).mono ?_
        rintro e w' ⟨he, k2, rfl⟩
        have m2 := mv_drewN (w4.drewN k) K4 k2
        exact ⟨he, K4, _, _, L, [], vw, vd, q, _, I, n2, AK.lf.to m2 (fun _ e => e.elim), ⟨by omega, by omega, by simp⟩, amk.trans (m2.mono (fun _ e => e.elim))⟩
      · have hlt2 : next - waterL next L < c.win := by rw [hwt]; rw [e] at hlt; have := of_decide_eq_true hlt; omega
        have hr : refP c.win next (waterL next L) 65636 7 1 2 ([97, 98, 99, 100] : List UInt8).length = 0 := by
          unfold refP
          rw [if_pos hargs, if_neg (by decide), if_neg (by omega), if_neg (by omega)]
        have hLl := AK.lf.om.lenL
        rw [HT.out.2.2.1] at hLl
        refine (AK.lf.pc.call_any 65636 7 1 2 [97, 98, 99, 100] hx hy hr (by decide) (by omega)).mono ?_
        rintro e w' ⟨he, K', x, vw', vd', P', ⟨fin, hfin, hnew⟩, m'⟩
        have htt := AK.lf.hc.total
        have h0 := AK.lf.om.now0
        have hnb := AK.lf.hn
        have hfin2 : fin = now + Pc.totalP c.pb c.pc c.pt := by rw [← hfin, IntWalk.i64_left]; exact wrap_in (by omega)
        exact ⟨he, K', x, vw', vd', P', AK.lf.me.mv m' (by omega), AK.lf.is.mv m' (by omega), AK.lf.om.call AK.lf.hc hnew hfin2 hlt2, amk.trans (m'.mono (fun u e => by omega))⟩
    have HWR : Hid (wrap64 (9 + (mI : Int)) = next ∧ wrap64 (next - wt) = df) := ⟨by rw [wrap_in b1, hnx], by rw [wrap_in b2, hdf]⟩
    obtain ⟨mJ, hmJ⟩ : ∃ mJ, mI + 1 = mJ := ⟨_, rfl⟩
    have b3 : -9223372036854775808 ≤ 8 + (mJ : Int) ∧ 8 + (mJ : Int) ≤ 9223372036854775807 := by omega
    have HN8 : Hid (wrap64 (8 + (mJ : Int)) = next) := by show _ = _; rw [wrap_in b3]; omega
    have HK : Hid (mI + 1 = mJ ∧ mI ≤ 50000000 ∧ OnC c ∧ now ≤ 100000000) := ⟨hmJ, hmB, A4.lf.hc, A4.lf.hn⟩
    have hr3 := HWR.out.1
    have hr4 := HWR.out.2
    have hr3' : IntKind.i64.wrap (9 + (mI : Int)) = next := by rw [IntWalk.i64_left]; exact hr3
    have hr4' : IntKind.i64.wrap (next - wt) = df := by rw [IntWalk.i64_left]; exact hr4
    clear A4 m4 am H4 HM3 HW hwat hnx hmB hw1 hwt b1 b2 hdf hmJ b3
    go_wp2_with fail
    go_quiet ((go_at_call 23; exact Calls.quiet_of_same (HWa.out _)))
    clear HWa
    cases lt
    · have HC := hid (fun k => (HCall.out k).1 rfl)
      clear HCall
      go_wp2_with fail
      refine (HC.out _).mono ?_
      rintro _ w5 ⟨rfl, H5⟩
      clear HC
      go_wp2
      go_ret
      exact ⟨rfl, H5.out⟩
    · have HC := hid (fun k => (HCall.out k).2 rfl)
      clear HCall
      go_wp2_with fail
      refine (HC.out _).mono ?_
      rintro _ w5 ⟨rfl, H5⟩
      clear HC z0 z1 a0
      obtain ⟨K5, x5, vw5, vd5, P5, M5, R5, om5, m5⟩ := H5.out
      have hI5 := HK.out.2.1
      have s0 : w5.drew.cell? ⟨xb, 1, none⟩ = some (.slice (some ⟨gI, 0, none⟩) mI cI) ∧ w5.drew.cell? ⟨xb, 0, none⟩ = some (ptr p) := ⟨cell_at (w := w5) M5.at_ rfl, cell_at (w := w5) M5.at_ rfl⟩
      have HNow : Hid (Calls Tryz.prog 24 #[ptr p] w5.drew fun e w' => e = .returned (.int .i64 now) ∧ w' = w5.drew) := (P5.to (Mv.drew (fun _ => False) w5 K5) (fun _ e => e.elim)).now_any
      obtain ⟨N6, hN6⟩ : ∃ y, w5.drew.heap.size = y := ⟨_, rfl⟩
      obtain ⟨w6, hw6⟩ : ∃ y, w5.drew.alloc (.cells #[.int .i64 next, .int .i64 now, .int .i64 0, .bool false] 99) = y := ⟨_, rfl⟩
      have b56 : Below w5.heap.size w5 w6 := by
        rw [← hw6]
        exact (show Below w5.heap.size w5 w5.drew from ⟨rfl, rfl, rfl, Nat.le_refl _, fun _ _ => rfl⟩).alloc (Nat.le_refl _) _
      have m6 := Mv.of_below b56 K5 (fun _ => t + 22)
      have P6 := P5.to m6 (fun _ e => e.elim)
      have M6 := M5.mv m6 (fun e => e)
      have R6 := R5.mv m6 (fun e => e)
      have hN : w6.heap[N6]? = some (.cells (isC ⟨next, now, 0, false⟩).toArray 99) := by rw [← hw6, ← hN6]; exact (MapKept.heap_alloc w5.drew _).1
      obtain ⟨o7, c7, w7, K7, r7, R7, m7⟩ := app61 R6 P6.hB hN (by rw [HT.out.2.2.1]; omega)
      rw [HT.out.2.2.1, HK.out.1] at r7 R7
      have M7 := M6.mv m7 (by omega)
      have P7 := P6.to m7 (fun t' e => by omega)
      have s6 : w6.cell? ⟨xb, 1, none⟩ = some (.slice (some ⟨gI, 0, none⟩) mI cI) ∧ w6.cell? ⟨xb, 0, none⟩ = some (ptr p) := ⟨cell_at M6.at_ rfl, cell_at M6.at_ rfl⟩
      have s7 : w7.cell? ⟨xb, 1, none⟩ = some (.slice (some ⟨gI, 0, none⟩) mI cI) ∧ w7.cell? ⟨xb, 0, none⟩ = some (ptr p) := ⟨cell_at M7.at_ rfl, cell_at M7.at_ rfl⟩
      have f7 : w7.frozen? ⟨xb, 1, none⟩ = false := frozen_at M7.at_ 1
      obtain ⟨w8, hw8⟩ : ∃ y, w7.setCell ⟨xb, 1, none⟩ (.slice o7 mJ c7) = y := ⟨_, rfl⟩
      have k8' := set_at M7.at_ 1 (.slice o7 mJ c7)
      rw [hw8] at k8'
      have s8 : w8.cell? ⟨xb, 1, none⟩ = some (.slice o7 mJ c7) := cell_at k8' rfl
      clear k8'
      have HFin : Hid (∃ K' next' now8 L' D' vw8 vd' q' vi' I' n2', LF K' w8 B t p xb c oa cap next' now8 L' D' vw8 vd' q' vi' I' n1 n2' ∧ (I'.length ≤ I.length + 1 ∧ now8 ≤ now + 1 ∧ D'.length ≤ 50000000) ∧ Mv (fun u => t ≤ u) w w8 K K') := by
        have m8 := Mv.of_set w7 K7 ⟨xb, 1, none⟩ (.slice o7 mJ c7) M7.k
        have k8 := set_at M7.at_ 1 (.slice o7 mJ c7)
        rw [hw8] at m8 k8
        exact ⟨K7, _, _, _, [], _, _, _, _, _, n2, ⟨P7.to m8 (fun t' e => by omega), ⟨k8, M7.k⟩, R7.mv m8 (by omega), om5, HK.out.2.2.1, by have h1 := HT.out.2.2.2.1; rw [HT.out.2.2.1] at h1; rw [List.length_append, HT.out.2.2.1]; simp; omega, HK.out.2.2.2⟩, ⟨by simp, by omega, by simp⟩, m5.trans ((m6.mono (fun _ e => e.elim)).trans ((m7.mono (fun u e => by omega)).trans (m8.mono (fun u e => by omega))))⟩
      have HR7 := hid r7
      have hb99 := fun a b w => bld99 a b w
      have hb61 := fun a b d e w => bls61 a b d e w
      have hn8 := HN8.out
      clear P5 M5 R5 om5 m5 H5 b56 m6 P6 M6 R6 hN r7 R7 m7 M7 P7 hI5 HN8 HT HK
      go_wp2_with fail
      refine wp_region_last (S := fun w' => w'.cell? ⟨xb, 1, none⟩ = some (.slice (some ⟨gI, 0, none⟩) mI cI) ∧ w'.cell? ⟨xb, 0, none⟩ = some (ptr p)) (n := 16) (by kernel_rfl) rfl (by kernel_rfl) (by kernel_rfl) ?_ (fun hHeldA => ?_)
      · exact s0
      refine wpAnyH_take (i := 0) (v := ?_) rfl (by kernel_rfl) (by kernel_rfl) (by kernel_rfl) (fun _ _ _ h => h) (Or.inl ⟨by rfl, ?_⟩) (by assumption) ?_
      rotate_left
      · (intro w hSw; (try dsimp only at hSw); go_simp; try with_reducible rfl)
      try simp only [Act.put]
      try simp only [List.setIfInBounds_toArray]
      try simp only [List.set_cons_succ]
      try simp only [List.set_cons_zero]
      refine wpAnyH_take (i := 1) (v := ?_) rfl (by kernel_rfl) (by kernel_rfl) (by kernel_rfl) (fun _ _ _ h => h) (Or.inl ⟨by rfl, ?_⟩) (by assumption) ?_
      rotate_left
      · (intro w hSw; (try dsimp only at hSw); go_simp; try with_reducible rfl)
      try simp only [Act.put]
      try simp only [List.setIfInBounds_toArray]
      try simp only [List.set_cons_succ]
      try simp only [List.set_cons_zero]
      refine wpAnyH_take (i := 2) (v := ?_) rfl (by kernel_rfl) (by kernel_rfl) (by kernel_rfl) (fun _ _ _ h => h) (Or.inl ⟨by rfl, ?_⟩) (by assumption) ?_
      rotate_left
      · (intro w hSw; (try dsimp only at hSw); go_simp; try with_reducible rfl)
      try simp only [Act.put]
      try simp only [List.setIfInBounds_toArray]
      try simp only [List.set_cons_succ]
      try simp only [List.set_cons_zero]
      refine wpAnyH_take (i := 3) (v := ?_) rfl (by kernel_rfl) (by kernel_rfl) (by kernel_rfl) (fun _ _ _ h => h) (Or.inl ⟨by rfl, ?_⟩) (by assumption) ?_
      rotate_left
      · (intro w hSw; (try dsimp only at hSw); go_simp; try with_reducible rfl)
      try simp only [Act.put]
      try simp only [List.setIfInBounds_toArray]
      try simp only [List.set_cons_succ]
      try simp only [List.set_cons_zero]
      refine wpAnyH_take (i := 4) (v := ?_) rfl (by kernel_rfl) (by kernel_rfl) (by kernel_rfl) (fun _ _ _ h => h) (Or.inl ⟨by rfl, ?_⟩) (by assumption) ?_
      rotate_left
      · (intro w hSw; (try dsimp only at hSw); go_simp; try with_reducible rfl)
      try simp only [Act.put]
      try simp only [List.setIfInBounds_toArray]
      try simp only [List.set_cons_succ]
      try simp only [List.set_cons_zero]
      refine wpAnyH_take (i := 5) (v := ?_) rfl (by kernel_rfl) (by kernel_rfl) (by kernel_rfl) (fun _ _ _ h => h) (Or.inl ⟨by rfl, ?_⟩) (by assumption) ?_
      rotate_left
      · (intro w hSw; (try dsimp only at hSw); go_simp; try with_reducible rfl)
      try simp only [Act.put]
      try simp only [List.setIfInBounds_toArray]
      try simp only [List.set_cons_succ]
      try simp only [List.set_cons_zero]
      refine wpAnyH_take (i := 6) (v := ?_) rfl (by kernel_rfl) (by kernel_rfl) (by kernel_rfl) (fun _ _ _ h => h) (Or.inl ⟨by rfl, ?_⟩) (by assumption) ?_
      rotate_left
      · (intro w hSw; (try dsimp only at hSw); go_simp; try with_reducible rfl)
      try simp only [Act.put]
      try simp only [List.setIfInBounds_toArray]
      try simp only [List.set_cons_succ]
      try simp only [List.set_cons_zero]
      refine wpAnyH_take (i := 7) (v := ?_) rfl (by kernel_rfl) (by kernel_rfl) (by kernel_rfl) (fun _ _ _ h => h) (Or.inl ⟨by rfl, ?_⟩) (by assumption) ?_
      rotate_left
      · (intro w hSw; (try dsimp only at hSw); go_simp; try with_reducible rfl)
      try simp only [Act.put]
      try simp only [List.setIfInBounds_toArray]
      try simp only [List.set_cons_succ]
      try simp only [List.set_cons_zero]
      refine wpAnyH_take (i := 8) (v := ?_) rfl (by kernel_rfl) (by kernel_rfl) (by kernel_rfl) (fun _ _ _ h => h) (Or.inl ⟨by rfl, ?_⟩) (by assumption) ?_
      rotate_left
      · (intro w hSw; (try dsimp only at hSw); go_simp; try with_reducible rfl)
      try simp only [Act.put]
      try simp only [List.setIfInBounds_toArray]
      try simp only [List.set_cons_succ]
      try simp only [List.set_cons_zero]
      refine wpAnyH_take (i := 9) (v := ?_) rfl (by kernel_rfl) (by kernel_rfl) (by kernel_rfl) (fun _ _ _ h => h) (Or.inl ⟨by rfl, ?_⟩) (by assumption) ?_
      rotate_left
      · (intro w hSw; (try dsimp only at hSw); go_simp; try with_reducible rfl)
      try simp only [Act.put]
      try simp only [List.setIfInBounds_toArray]
      try simp only [List.set_cons_succ]
      try simp only [List.set_cons_zero]
      refine wpAnyH_ready (rs := [10]) (by kernel_rfl) (by simp) ?_
      refine AllReadyH.cons rfl (fun KK hK => ?_) AllReadyH.nil
      go_simp
      refine HNow.out.mono ?_
      rintro _ _ ⟨rfl, rfl⟩
      refine hK.out _ _ ?_ (fun hHeldB => ?_)
      · exact s0
      clear hK hHeldA
      try simp only [Act.put]
      try simp only [List.setIfInBounds_toArray]
      try simp only [List.set_cons_succ]
      try simp only [List.set_cons_zero]
      refine wpAnyH_take (i := 11) (v := ?_) rfl (by kernel_rfl) (by kernel_rfl) (by kernel_rfl) (fun _ _ _ h => h) (Or.inl ⟨by rfl, ?_⟩) (by assumption) ?_
      rotate_left
      · (intro w hSw; (try dsimp only at hSw); go_simp; try with_reducible rfl)
      try simp only [Act.put]
      try simp only [List.setIfInBounds_toArray]
      try simp only [List.set_cons_succ]
      try simp only [List.set_cons_zero]
      refine wpAnyH_ready (rs := [12]) (by kernel_rfl) (by simp) ?_
      refine AllReadyH.cons rfl (fun KK hK => ?_) AllReadyH.nil
      go_simp
      refine hK.out _ _ ?_ (fun hHeldC => ?_)
      · exact s6
      clear hK hHeldB
      try simp only [Act.put]
      try simp only [List.setIfInBounds_toArray]
      try simp only [List.set_cons_succ]
      try simp only [List.set_cons_zero]
      refine wpAnyH_ready (rs := [13]) (by kernel_rfl) (by simp) ?_
      refine AllReadyH.cons rfl (fun KK hK => ?_) AllReadyH.nil
      refine step_app rfl (.tmp 97) (.tmp 105) 61 rfl (.slice (some ⟨gI, 0, none⟩) mI cI) (.slice (some ⟨N6, 0, none⟩) 1 1) _ _ (by go_simp) (by go_simp) (HR7.out _) ?_
      refine hK.out _ _ ?_ (fun hHeldZ => ?_)
      · exact s7
      clear hK hHeldC
      try simp only [Act.put]
      try simp only [List.setIfInBounds_toArray]
      try simp only [List.set_cons_succ]
      try simp only [List.set_cons_zero]
      refine wpAnyH_take (i := 14) (v := ?_) rfl (by kernel_rfl) (by kernel_rfl) (by kernel_rfl) (fun _ _ _ h => h) (Or.inl ⟨by rfl, ?_⟩) (by assumption) ?_
      rotate_left
      · (intro w hSw; (try dsimp only at hSw); go_simp; try with_reducible rfl)
      try simp only [Act.put]
      try simp only [List.setIfInBounds_toArray]
      try simp only [List.set_cons_succ]
      try simp only [List.set_cons_zero]
      refine wpAnyH_take (i := 15) (v := ?_) rfl (by kernel_rfl) (by kernel_rfl) (by kernel_rfl) (fun _ _ _ h => h) (Or.inl ⟨by rfl, ?_⟩) (by assumption) ?_
      rotate_left
      · (intro w hSw; (try dsimp only at hSw); go_simp; try with_reducible rfl)
      try simp only [Act.put]
      try simp only [List.setIfInBounds_toArray]
      try simp only [List.set_cons_succ]
      try simp only [List.set_cons_zero]
      refine wpAnyH_done (by kernel_rfl) ?_ _
      refine LastQ.done ?_
      refine wpOp_step (i := 16) rfl (fun KK hK => ?_)
      have HK := hid hK
      clear hK
      go_simp
      refine HK.out _ _ ?_
      clear HK
      clear s0 s6 s7 f7 hHeldZ
      go_wp2
      go_ret
      exact ⟨rfl, HFin.out⟩
  · have HW : Hid (false = true ↔ ∃ y ∈ L, y.seq = nn) := by
      refine ⟨fun e => by (cases e), fun ⟨y, hy, ey⟩ => ?_⟩
      have h1 := (A3.lf.om.seq_lt hy).2
      have h2 := A3.lf.om.nxt
      rw [HT.out.2.2.1] at h2
      omega
    clear A3 hke hnk
    go_wp2_with fail
    refine H49.out.mono ?_
    rintro _ w4 ⟨rfl, H4⟩
    clear H49
    obtain ⟨K4, A4, m4⟩ := H4.out
    have am := HM3.out.2.trans m4
    have a0 : w4.cell? ⟨S1, 0, none⟩ = some (.int .i64 0) := cell_at A4.a.at_ rfl
    have z0 : w4.cell? ⟨xb, 0, none⟩ = some (ptr p) := A4.lf.ce0.1
    have z1 := A4.lf.ce0.2.1
    have hwat := A4.lf.om.water A4.lf.hc.w1
    have hnx := A4.lf.om.nxt
    rw [HT.out.2.2.1] at hnx
    have hmB : mI ≤ 50000000 := by have := HT.out.2.2.2.1; rw [HT.out.2.2.1] at this; omega
    have hw1 := A4.lf.hc.w2
    obtain ⟨wt, hwt⟩ : ∃ wt, waterL next L = wt := ⟨_, rfl⟩
    rw [hwt] at hwat
    have HWa : Hid (∀ k, Calls Tryz.prog 23 #[ptr p] (w4.drewN k) fun e w' => e = .returned (.int .i64 wt) ∧ w' = w4.drewN k) := fun k => by rw [← hwt]; exact (A4.to (mv_drewN w4 K4 k) (fun _ e => e.elim)).lf.pc.water_any
    have b1 : -9223372036854775808 ≤ 9 + (mI : Int) ∧ 9 + (mI : Int) ≤ 9223372036854775807 := by omega
    obtain ⟨df, hdf⟩ : ∃ df, next - wt = df := ⟨_, rfl⟩
    have b2 : -9223372036854775808 ≤ next - wt ∧ next - wt ≤ 9223372036854775807 := by omega
    obtain ⟨lt, hlt⟩ : ∃ lt, decide (df < c.win) = lt := ⟨_, rfl⟩
    have HCall : Hid (∀ k, (lt = false → Calls Tryz.prog 19 #[ptr p, .int .i64 65636, .int .i64 7, .int .i64 1, .int .i64 2, .string ⟨#[97, 98, 99, 100]⟩] (w4.drewN k) fun e w' => e = .returned (.tuple #[.int .i64 0, .int .i64 171]) ∧ Hid (∃ K' next' now' L' D' vw' vd' q' vi' I' n2', LF K' w' B t p xb c oa cap next' now' L' D' vw' vd' q' vi' I' n1 n2' ∧ (I'.length ≤ I.length + 1 ∧ now' ≤ now + 1 ∧ D'.length ≤ 50000000) ∧ Mv (fun u => t ≤ u) w w' K K')) ∧
        (lt = true → Calls Tryz.prog 19 #[ptr p, .int .i64 65636, .int .i64 7, .int .i64 1, .int .i64 2, .string ⟨#[97, 98, 99, 100]⟩] (w4.drewN k) fun e w' => e = .returned (.tuple #[.int .i64 next, .int .i64 0]) ∧ Hid (∃ K5 x vw5 vd5, PC K5 w' B t p c oa cap (next + 1) now (L ++ [x]) [] vw5 vd5 q ∧ TB K5 w' (t + 20) xb (lfB p (.slice oI mI cI) n1 n2) ∧ RW 99 4 isC K5 w' B (t + 21) (.slice oI mI cI) I ∧ OM c now (next + 1) (I ++ [⟨next, now, 0, false⟩]) (L ++ [x]) [] n1 n2 ∧ Mv (fun u => t ≤ u) w w' K K5))) := fun k => by
      have AK := A4.to (mv_drewN w4 K4 k) (fun _ e => e.elim)
      have amk := am.trans ((mv_drewN w4 K4 k).mono (fun _ e => e.elim))
      have hx : -1000000000000 ≤ next ∧ next ≤ 1000000000000 := by omega
      have hy : -1000000000000 ≤ waterL next L ∧ waterL next L ≤ 1000000000000 := by rw [hwt]; omega
      have hargs : argsB 65636 7 1 2 = true := by decide
      refine ⟨fun e => ?_, fun e => ?_⟩
      · have hge : c.win ≤ next - wt := by rw [e] at hlt; have := of_decide_eq_false hlt; omega
        have hr : refP c.win next (waterL next L) 65636 7 1 2 4 = 171 := by
          unfold refP
          rw [if_pos hargs, if_neg (by decide), hwt, if_pos hge]
        refine (AK.lf.pc.call_no 65636 7 1 2 ⟨#[97, 98, 99, 100]⟩ 171 hx hy hr (by decide)).mono ?_
        rintro e w' ⟨he, k2, rfl⟩
        have m2 := mv_drewN (w4.drewN k) K4 k2
        exact ⟨he, K4, _, _, L, [], vw, vd, q, _, I, n2, AK.lf.to m2 (fun _ e => e.elim), ⟨by omega, by omega, by simp⟩, amk.trans (m2.mono (fun _ e => e.elim))⟩
      · have hlt2 : next - waterL next L < c.win := by rw [hwt]; rw [e] at hlt; have := of_decide_eq_true hlt; omega
        have hr : refP c.win next (waterL next L) 65636 7 1 2 ([97, 98, 99, 100] : List UInt8).length = 0 := by
          unfold refP
          rw [if_pos hargs, if_neg (by decide), if_neg (by omega), if_neg (by omega)]
        have hLl := AK.lf.om.lenL
        rw [HT.out.2.2.1] at hLl
        refine (AK.lf.pc.call_any 65636 7 1 2 [97, 98, 99, 100] hx hy hr (by decide) (by omega)).mono ?_
        rintro e w' ⟨he, K', x, vw', vd', P', ⟨fin, hfin, hnew⟩, m'⟩
        have htt := AK.lf.hc.total
        have h0 := AK.lf.om.now0
        have hnb := AK.lf.hn
        have hfin2 : fin = now + Pc.totalP c.pb c.pc c.pt := by rw [← hfin, IntWalk.i64_left]; exact wrap_in (by omega)
        exact ⟨he, K', x, vw', vd', P', AK.lf.me.mv m' (by omega), AK.lf.is.mv m' (by omega), AK.lf.om.call AK.lf.hc hnew hfin2 hlt2, amk.trans (m'.mono (fun u e => by omega))⟩
    have HWR : Hid (wrap64 (9 + (mI : Int)) = next ∧ wrap64 (next - wt) = df) := ⟨by rw [wrap_in b1, hnx], by rw [wrap_in b2, hdf]⟩
    obtain ⟨mJ, hmJ⟩ : ∃ mJ, mI + 1 = mJ := ⟨_, rfl⟩
    have b3 : -9223372036854775808 ≤ 8 + (mJ : Int) ∧ 8 + (mJ : Int) ≤ 9223372036854775807 := by omega
    have HN8 : Hid (wrap64 (8 + (mJ : Int)) = next) := by show _ = _; rw [wrap_in b3]; omega
    have HK : Hid (mI + 1 = mJ ∧ mI ≤ 50000000 ∧ OnC c ∧ now ≤ 100000000) := ⟨hmJ, hmB, A4.lf.hc, A4.lf.hn⟩
    have hr3 := HWR.out.1
    have hr4 := HWR.out.2
    have hr3' : IntKind.i64.wrap (9 + (mI : Int)) = next := by rw [IntWalk.i64_left]; exact hr3
    have hr4' : IntKind.i64.wrap (next - wt) = df := by rw [IntWalk.i64_left]; exact hr4
    clear A4 m4 am H4 HM3 HW hwat hnx hmB hw1 hwt b1 b2 hdf hmJ b3
    go_wp2_with fail
    go_quiet ((go_at_call 23; exact Calls.quiet_of_same (HWa.out _)))
    clear HWa
    cases lt
    · have HC := hid (fun k => (HCall.out k).1 rfl)
      clear HCall
      go_wp2_with fail
      refine (HC.out _).mono ?_
      rintro _ w5 ⟨rfl, H5⟩
      clear HC
      go_wp2
      go_ret
      exact ⟨rfl, H5.out⟩
    · have HC := hid (fun k => (HCall.out k).2 rfl)
      clear HCall
      go_wp2_with fail
      refine (HC.out _).mono ?_
      rintro _ w5 ⟨rfl, H5⟩
      clear HC z0 z1 a0
      obtain ⟨K5, x5, vw5, vd5, P5, M5, R5, om5, m5⟩ := H5.out
      have hI5 := HK.out.2.1
      have s0 : w5.drew.cell? ⟨xb, 1, none⟩ = some (.slice oI mI cI) ∧ w5.drew.cell? ⟨xb, 0, none⟩ = some (ptr p) := ⟨cell_at (w := w5) M5.at_ rfl, cell_at (w := w5) M5.at_ rfl⟩
      have HNow : Hid (Calls Tryz.prog 24 #[ptr p] w5.drew fun e w' => e = .returned (.int .i64 now) ∧ w' = w5.drew) := (P5.to (Mv.drew (fun _ => False) w5 K5) (fun _ e => e.elim)).now_any
      obtain ⟨N6, hN6⟩ : ∃ y, w5.drew.heap.size = y := ⟨_, rfl⟩
      obtain ⟨w6, hw6⟩ : ∃ y, w5.drew.alloc (.cells #[.int .i64 next, .int .i64 now, .int .i64 0, .bool false] 99) = y := ⟨_, rfl⟩
      have b56 : Below w5.heap.size w5 w6 := by
        rw [← hw6]
        exact (show Below w5.heap.size w5 w5.drew from ⟨rfl, rfl, rfl, Nat.le_refl _, fun _ _ => rfl⟩).alloc (Nat.le_refl _) _
      have m6 := Mv.of_below b56 K5 (fun _ => t + 22)
      have P6 := P5.to m6 (fun _ e => e.elim)
      have M6 := M5.mv m6 (fun e => e)
      have R6 := R5.mv m6 (fun e => e)
      have hN : w6.heap[N6]? = some (.cells (isC ⟨next, now, 0, false⟩).toArray 99) := by rw [← hw6, ← hN6]; exact (MapKept.heap_alloc w5.drew _).1
      obtain ⟨o7, c7, w7, K7, r7, R7, m7⟩ := app61 R6 P6.hB hN (by rw [HT.out.2.2.1]; omega)
      rw [HT.out.2.2.1, HK.out.1] at r7 R7
      have M7 := M6.mv m7 (by omega)
      have P7 := P6.to m7 (fun t' e => by omega)
      have s6 : w6.cell? ⟨xb, 1, none⟩ = some (.slice oI mI cI) ∧ w6.cell? ⟨xb, 0, none⟩ = some (ptr p) := ⟨cell_at M6.at_ rfl, cell_at M6.at_ rfl⟩
      have s7 : w7.cell? ⟨xb, 1, none⟩ = some (.slice oI mI cI) ∧ w7.cell? ⟨xb, 0, none⟩ = some (ptr p) := ⟨cell_at M7.at_ rfl, cell_at M7.at_ rfl⟩
      have f7 : w7.frozen? ⟨xb, 1, none⟩ = false := frozen_at M7.at_ 1
      obtain ⟨w8, hw8⟩ : ∃ y, w7.setCell ⟨xb, 1, none⟩ (.slice o7 mJ c7) = y := ⟨_, rfl⟩
      have k8' := set_at M7.at_ 1 (.slice o7 mJ c7)
      rw [hw8] at k8'
      have s8 : w8.cell? ⟨xb, 1, none⟩ = some (.slice o7 mJ c7) := cell_at k8' rfl
      clear k8'
      have HFin : Hid (∃ K' next' now8 L' D' vw8 vd' q' vi' I' n2', LF K' w8 B t p xb c oa cap next' now8 L' D' vw8 vd' q' vi' I' n1 n2' ∧ (I'.length ≤ I.length + 1 ∧ now8 ≤ now + 1 ∧ D'.length ≤ 50000000) ∧ Mv (fun u => t ≤ u) w w8 K K') := by
        have m8 := Mv.of_set w7 K7 ⟨xb, 1, none⟩ (.slice o7 mJ c7) M7.k
        have k8 := set_at M7.at_ 1 (.slice o7 mJ c7)
        rw [hw8] at m8 k8
        exact ⟨K7, _, _, _, [], _, _, _, _, _, n2, ⟨P7.to m8 (fun t' e => by omega), ⟨k8, M7.k⟩, R7.mv m8 (by omega), om5, HK.out.2.2.1, by have h1 := HT.out.2.2.2.1; rw [HT.out.2.2.1] at h1; rw [List.length_append, HT.out.2.2.1]; simp; omega, HK.out.2.2.2⟩, ⟨by simp, by omega, by simp⟩, m5.trans ((m6.mono (fun _ e => e.elim)).trans ((m7.mono (fun u e => by omega)).trans (m8.mono (fun u e => by omega))))⟩
      have HR7 := hid r7
      have hb99 := fun a b w => bld99 a b w
      have hb61 := fun a b d e w => bls61 a b d e w
      have hn8 := HN8.out
      clear P5 M5 R5 om5 m5 H5 b56 m6 P6 M6 R6 hN r7 R7 m7 M7 P7 hI5 HN8 HT HK
      go_wp2_with fail
      refine wp_region_last (S := fun w' => w'.cell? ⟨xb, 1, none⟩ = some (.slice oI mI cI) ∧ w'.cell? ⟨xb, 0, none⟩ = some (ptr p)) (n := 16) (by kernel_rfl) rfl (by kernel_rfl) (by kernel_rfl) ?_ (fun hHeldA => ?_)
      · exact s0
      refine wpAnyH_take (i := 0) (v := ?_) rfl (by kernel_rfl) (by kernel_rfl) (by kernel_rfl) (fun _ _ _ h => h) (Or.inl ⟨by rfl, ?_⟩) (by assumption) ?_
      rotate_left
      · (intro w hSw; (try dsimp only at hSw); go_simp; try with_reducible rfl)
      try simp only [Act.put]
      try simp only [List.setIfInBounds_toArray]
      try simp only [List.set_cons_succ]
      try simp only [List.set_cons_zero]
      refine wpAnyH_take (i := 1) (v := ?_) rfl (by kernel_rfl) (by kernel_rfl) (by kernel_rfl) (fun _ _ _ h => h) (Or.inl ⟨by rfl, ?_⟩) (by assumption) ?_
      rotate_left
      · (intro w hSw; (try dsimp only at hSw); go_simp; try with_reducible rfl)
      try simp only [Act.put]
      try simp only [List.setIfInBounds_toArray]
      try simp only [List.set_cons_succ]
      try simp only [List.set_cons_zero]
      refine wpAnyH_take (i := 2) (v := ?_) rfl (by kernel_rfl) (by kernel_rfl) (by kernel_rfl) (fun _ _ _ h => h) (Or.inl ⟨by rfl, ?_⟩) (by assumption) ?_
      rotate_left
      · (intro w hSw; (try dsimp only at hSw); go_simp; try with_reducible rfl)
      try simp only [Act.put]
      try simp only [List.setIfInBounds_toArray]
      try simp only [List.set_cons_succ]
      try simp only [List.set_cons_zero]
      refine wpAnyH_take (i := 3) (v := ?_) rfl (by kernel_rfl) (by kernel_rfl) (by kernel_rfl) (fun _ _ _ h => h) (Or.inl ⟨by rfl, ?_⟩) (by assumption) ?_
      rotate_left
      · (intro w hSw; (try dsimp only at hSw); go_simp; try with_reducible rfl)
      try simp only [Act.put]
      try simp only [List.setIfInBounds_toArray]
      try simp only [List.set_cons_succ]
      try simp only [List.set_cons_zero]
      refine wpAnyH_take (i := 4) (v := ?_) rfl (by kernel_rfl) (by kernel_rfl) (by kernel_rfl) (fun _ _ _ h => h) (Or.inl ⟨by rfl, ?_⟩) (by assumption) ?_
      rotate_left
      · (intro w hSw; (try dsimp only at hSw); go_simp; try with_reducible rfl)
      try simp only [Act.put]
      try simp only [List.setIfInBounds_toArray]
      try simp only [List.set_cons_succ]
      try simp only [List.set_cons_zero]
      refine wpAnyH_take (i := 5) (v := ?_) rfl (by kernel_rfl) (by kernel_rfl) (by kernel_rfl) (fun _ _ _ h => h) (Or.inl ⟨by rfl, ?_⟩) (by assumption) ?_
      rotate_left
      · (intro w hSw; (try dsimp only at hSw); go_simp; try with_reducible rfl)
      try simp only [Act.put]
      try simp only [List.setIfInBounds_toArray]
      try simp only [List.set_cons_succ]
      try simp only [List.set_cons_zero]
      refine wpAnyH_take (i := 6) (v := ?_) rfl (by kernel_rfl) (by kernel_rfl) (by kernel_rfl) (fun _ _ _ h => h) (Or.inl ⟨by rfl, ?_⟩) (by assumption) ?_
      rotate_left
      · (intro w hSw; (try dsimp only at hSw); go_simp; try with_reducible rfl)
      try simp only [Act.put]
      try simp only [List.setIfInBounds_toArray]
      try simp only [List.set_cons_succ]
      try simp only [List.set_cons_zero]
      refine wpAnyH_take (i := 7) (v := ?_) rfl (by kernel_rfl) (by kernel_rfl) (by kernel_rfl) (fun _ _ _ h => h) (Or.inl ⟨by rfl, ?_⟩) (by assumption) ?_
      rotate_left
      · (intro w hSw; (try dsimp only at hSw); go_simp; try with_reducible rfl)
      try simp only [Act.put]
      try simp only [List.setIfInBounds_toArray]
      try simp only [List.set_cons_succ]
      try simp only [List.set_cons_zero]
      refine wpAnyH_take (i := 8) (v := ?_) rfl (by kernel_rfl) (by kernel_rfl) (by kernel_rfl) (fun _ _ _ h => h) (Or.inl ⟨by rfl, ?_⟩) (by assumption) ?_
      rotate_left
      · (intro w hSw; (try dsimp only at hSw); go_simp; try with_reducible rfl)
      try simp only [Act.put]
      try simp only [List.setIfInBounds_toArray]
      try simp only [List.set_cons_succ]
      try simp only [List.set_cons_zero]
      refine wpAnyH_take (i := 9) (v := ?_) rfl (by kernel_rfl) (by kernel_rfl) (by kernel_rfl) (fun _ _ _ h => h) (Or.inl ⟨by rfl, ?_⟩) (by assumption) ?_
      rotate_left
      · (intro w hSw; (try dsimp only at hSw); go_simp; try with_reducible rfl)
      try simp only [Act.put]
      try simp only [List.setIfInBounds_toArray]
      try simp only [List.set_cons_succ]
      try simp only [List.set_cons_zero]
      refine wpAnyH_ready (rs := [10]) (by kernel_rfl) (by simp) ?_
      refine AllReadyH.cons rfl (fun KK hK => ?_) AllReadyH.nil
      go_simp
      refine HNow.out.mono ?_
      rintro _ _ ⟨rfl, rfl⟩
      refine hK.out _ _ ?_ (fun hHeldB => ?_)
      · exact s0
      clear hK hHeldA
      try simp only [Act.put]
      try simp only [List.setIfInBounds_toArray]
      try simp only [List.set_cons_succ]
      try simp only [List.set_cons_zero]
      refine wpAnyH_take (i := 11) (v := ?_) rfl (by kernel_rfl) (by kernel_rfl) (by kernel_rfl) (fun _ _ _ h => h) (Or.inl ⟨by rfl, ?_⟩) (by assumption) ?_
      rotate_left
      · (intro w hSw; (try dsimp only at hSw); go_simp; try with_reducible rfl)
      try simp only [Act.put]
      try simp only [List.setIfInBounds_toArray]
      try simp only [List.set_cons_succ]
      try simp only [List.set_cons_zero]
      refine wpAnyH_ready (rs := [12]) (by kernel_rfl) (by simp) ?_
      refine AllReadyH.cons rfl (fun KK hK => ?_) AllReadyH.nil
      go_simp
      refine hK.out _ _ ?_ (fun hHeldC => ?_)
      · exact s6
      clear hK hHeldB
      try simp only [Act.put]
      try simp only [List.setIfInBounds_toArray]
      try simp only [List.set_cons_succ]
      try simp only [List.set_cons_zero]
      refine wpAnyH_ready (rs := [13]) (by kernel_rfl) (by simp) ?_
      refine AllReadyH.cons rfl (fun KK hK => ?_) AllReadyH.nil
      refine step_app rfl (.tmp 97) (.tmp 105) 61 rfl (.slice oI mI cI) (.slice (some ⟨N6, 0, none⟩) 1 1) _ _ (by go_simp) (by go_simp) (HR7.out _) ?_
      refine hK.out _ _ ?_ (fun hHeldZ => ?_)
      · exact s7
      clear hK hHeldC
      try simp only [Act.put]
      try simp only [List.setIfInBounds_toArray]
      try simp only [List.set_cons_succ]
      try simp only [List.set_cons_zero]
      refine wpAnyH_take (i := 14) (v := ?_) rfl (by kernel_rfl) (by kernel_rfl) (by kernel_rfl) (fun _ _ _ h => h) (Or.inl ⟨by rfl, ?_⟩) (by assumption) ?_
      rotate_left
      · (intro w hSw; (try dsimp only at hSw); go_simp; try with_reducible rfl)
      try simp only [Act.put]
      try simp only [List.setIfInBounds_toArray]
      try simp only [List.set_cons_succ]
      try simp only [List.set_cons_zero]
      refine wpAnyH_take (i := 15) (v := ?_) rfl (by kernel_rfl) (by kernel_rfl) (by kernel_rfl) (fun _ _ _ h => h) (Or.inl ⟨by rfl, ?_⟩) (by assumption) ?_
      rotate_left
      · (intro w hSw; (try dsimp only at hSw); go_simp; try with_reducible rfl)
      try simp only [Act.put]
      try simp only [List.setIfInBounds_toArray]
      try simp only [List.set_cons_succ]
      try simp only [List.set_cons_zero]
      refine wpAnyH_done (by kernel_rfl) ?_ _
      refine LastQ.done ?_
      refine wpOp_step (i := 16) rfl (fun KK hK => ?_)
      have HK := hid hK
      clear hK
      go_simp
      refine HK.out _ _ ?_
      clear HK
      clear s0 s6 s7 f7 hHeldZ
      go_wp2
      go_ret
      exact ⟨rfl, HFin.out⟩
end
end Go.Proofs.YtfcbjcebkahehaaGreatDoor.Cl
namespace Go.Proofs.YtfcbjcebkahehaaGreatDoor.Cl
open Go.RowKit
section
variable {K K' : Nat → Nat} {w w' : World} {B t p xb S S1 S2 : Nat} {c : Cf} {oa : Option Addr} {cap : Nat} {next now : Int} {L : List Wt} {D R : List Oc} {vw vd v : Value} {q : Mq} {vi : Value} {I : List Is} {n1 n2 : Int}
set_option maxRecDepth 8000 in
set_option maxHeartbeats 8000000 in
theorem LF.acts_raw (h : LF K w B t p xb c oa cap next now L [] vw vd q vi I n1 n2) (N : Int) (s : ByteArray) (hN : -9223372036854775808 ≤ N ∧ N ≤ 9223372036854775807) (hI : I.length + 1 ≤ 50000000) (hn : now + 1 ≤ 100000000) (hs : s.size ≤ 281474976710656) :
    Calls Tryz.prog 15 #[ptr xb, .agg #[.int .i64 5, .int .i64 N, .string s], .agg #[.int .i64 c.pb, .int .i64 c.pc, .int .i64 c.pt], .int .i64 c.win] w fun e w' => e = .returned (.bool true) ∧ Hid (∃ K' next' now' L' D' vw' vd' q' vi' I' n2', LF K' w' B t p xb c oa cap next' now' L' D' vw' vd' q' vi' I' n1 n2' ∧ (I'.length ≤ I.length + 1 ∧ now' ≤ now + 1 ∧ D'.length ≤ 50000000) ∧ Mv (fun u => t ≤ u) w w' K K') := by
  obtain ⟨mI, hmI⟩ : ∃ m, I.length = m := ⟨_, rfl⟩
  obtain ⟨w2, hw2⟩ : ∃ y, (w.alloc (.cells #[.int .i64 5, .int .i64 N, .string s] 66)).alloc (.cells #[.int .i64 c.pb, .int .i64 c.pc, .int .i64 c.pt] 23) = y := ⟨_, rfl⟩
  obtain ⟨K2, kk, BE⟩ := h.beg 5 N s hN hmI hw2
  obtain ⟨S1, hS1⟩ : ∃ y, w.heap.size = y := ⟨_, rfl⟩
  obtain ⟨w1, hw1⟩ : ∃ y, w.alloc (.cells #[.int .i64 5, .int .i64 N, .string s] 66) = y := ⟨_, rfl⟩
  obtain ⟨S2, hS2⟩ : ∃ y, w1.heap.size = y := ⟨_, rfl⟩
  have hS12 : w.heap.size + 1 = S2 := by rw [← hS2, ← hw1]; simp
  rw [hw1] at hw2
  rw [hS12, hS1] at BE
  obtain ⟨oI, cI, evi, _, hgI⟩ := h.is.form
  rw [hmI] at evi
  subst evi
  have a1 : w2.cell? ⟨S1, 1, none⟩ = some (.int .i64 N) := cell_at BE.ac.a.at_ rfl
  have x1 : w2.cell? ⟨xb, 1, none⟩ = some (.slice oI mI cI) := BE.ac.lf.ce0.2.1
  have HPk := hid BE.pk
  have HOf := hid BE.of_
  have HPr := hid BE.pr
  have hkk := BE.kle
  have hmB : (mI : Int) ≤ 50000000 := by omega
  obtain ⟨mj, hmj⟩ : ∃ mj : Int, (mI : Int) + 1 = mj := ⟨_, rfl⟩
  have b1 : -9223372036854775808 ≤ (mI : Int) + 1 ∧ (mI : Int) + 1 ≤ 9223372036854775807 := by omega
  obtain ⟨nn, hnn⟩ : ∃ nn : Int, 9 + (kk : Int) = nn := ⟨_, rfl⟩
  have b2 : -9223372036854775808 ≤ 9 + (kk : Int) ∧ 9 + (kk : Int) ≤ 9223372036854775807 := by omega
  obtain ⟨kv, hkv⟩ : ∃ kv : Int, (if kk < mI then (kk : Int) else -1) = kv := ⟨_, rfl⟩
  have hkvi : Hid ((kk < mI ∧ kv = kk ∧ nn = 9 + kk) ∨ (kk = mI ∧ kv = -1 ∧ nn = 9 + kk)) := by
    rw [← hkv, ← hnn]
    by_cases e : kk < mI
    · exact .inl ⟨e, if_pos e, rfl⟩
    · exact .inr ⟨by omega, if_neg e, rfl⟩
  have hw9 : isW nn := by unfold isW; omega
  obtain ⟨txt, htxt⟩ : ∃ txt : ByteArray, (⟨(repR nn).lay.toArray⟩ : ByteArray) = txt := ⟨_, rfl⟩
  have HT := hid (And.intro htxt (And.intro hw9 (And.intro hmI (And.intro hI (And.intro hn (And.intro hs h))))))
  have HG := hid hgI
  rw [hmj] at HPk
  rw [hkv] at HOf
  have HPr : Hid (∀ w' K', AC K' w' B t p xb S1 S2 c oa cap next now L vw vd q (.slice oI mI cI) I n1 n2 5 N s → Calls Tryz.prog 49 #[.agg #[.int .i64 nn, .bool false, .int .i64 0, .string ⟨#[]⟩, .int .i64 0, .int .i64 0, .int .i64 0, .int .i64 0, .int .i64 0, .string ⟨#[119, 120, 121, 122]⟩]] w' fun e w'' => e = .returned (.tuple #[.string txt, .int .i64 0]) ∧ Hid (∃ K'', AC K'' w'' B t p xb S1 S2 c oa cap next now L vw vd q (.slice oI mI cI) I n1 n2 5 N s ∧ Mv (fun u => t ≤ u) w' w'' K' K'')) := fun w' K' a' => by
    have := HPr.out w' K' a'
    rw [hnn, htxt] at this
    exact this
  rw [hnn] at HOf
  have hb46 := fun nn w => bld46r nn w
  have hr1 : IntKind.i64.wrap ((mI : Int) + 1) = mj := by rw [IntWalk.i64_left, wrap_in b1, hmj]
  have hr1' : wrap64 ((mI : Int) + 1) = mj := by rw [wrap_in b1, hmj]
  have hr2 : IntKind.i64.wrap (9 + (kk : Int)) = nn := by rw [IntWalk.i64_left, wrap_in b2, hnn]
  have hr2' : wrap64 (9 + (kk : Int)) = nn := by rw [wrap_in b2, hnn]
  clear h BE hgI hN hmI hI hn hs hS12 hkk hmB hmj b1 b2 hnn hkv hw9 htxt
  go_enter Tryz.func15, Tryz.ntmps15
  go_wp2_with fail
  go_quiet ((go_at_call 10; exact Calls.quiet_of_same (HPk.out _)))
  go_wp2_with fail
  refine (HOf.out _).mono ?_
  rintro _ w3 ⟨rfl, A3, m3⟩
  clear HPk HOf a1 x1 hr1 hr1' hr2 hr2'
  have x1 : w3.cell? ⟨xb, 1, none⟩ = some (.slice oI mI cI) := A3.lf.ce0.2.1
  have H49 := hid (HPr.out w3 K2 A3)
  have HM3 := hid (And.intro A3 m3)
  clear HPr m3
  rcases hkvi.out with ⟨hlt, rfl, hnk⟩ | ⟨hke, rfl, hnk⟩
  · obtain ⟨gI, rfl⟩ := HG.out (by rw [HT.out.2.2.1]; omega)
    obtain ⟨i, hi⟩ : ∃ i, I[kk]? = some i := ⟨_, List.getElem?_eq_getElem (by rw [HT.out.2.2.1]; omega)⟩
    obtain ⟨ib, hib⟩ : ∃ ib, i.over = ib := ⟨_, rfl⟩
    have y3 : w3.cell? ⟨gI, kk * 4 + 3, none⟩ = some (.bool ib) := by rw [← hib]; exact (A3.lf.is.is4 HT.out.2.2.1 hi).2.2.2
    have hk0 : decide ((0 : Int) ≤ (kk : Int)) = true := decide_eq_true (by omega)
    have hkm : (kk : Int) < (mI : Int) := by omega
    have hkm0 : (0 : Int) ≤ (kk : Int) := by omega
    obtain ⟨wb, hwb⟩ : ∃ wb, (!ib) = wb := ⟨_, rfl⟩
    have HW : Hid (wb = true ↔ ∃ y ∈ L, y.seq = nn) := by
      have hnum := A3.lf.om.num kk i hi
      refine ⟨fun e => ?_, fun ⟨y, hy, ey⟩ => ?_⟩
      · have hf : i.over = false := by rw [hib]; rw [e] at hwb; simpa using hwb
        rcases A3.lf.om.all kk i hi hf with ⟨x, hx, ex⟩ | ⟨d, hd, _⟩
        · exact ⟨x, hx, by omega⟩
        · cases hd
      · obtain ⟨k', i', b1, b2, b3, b4⟩ := A3.lf.om.wt y hy
        obtain ⟨_, e2⟩ := A3.lf.om.same_at b1 hi (by have := b3.seq; omega)
        rw [← hwb, ← hib, ← e2, b2]; rfl
    clear A3 hi hib hlt hnk
    go_wp2_with fail
    refine H49.out.mono ?_
    rintro _ w4 ⟨rfl, H4⟩
    clear H49
    obtain ⟨K4, A4, m4⟩ := H4.out
    have am := HM3.out.2.trans m4
    have a0 : w4.cell? ⟨S1, 0, none⟩ = some (.int .i64 5) := cell_at A4.a.at_ rfl
    have a2 : w4.cell? ⟨S1, 2, none⟩ = some (.string s) := cell_at A4.a.at_ rfl
    obtain ⟨data, hds⟩ : ∃ data : List UInt8, (⟨data.toArray⟩ : ByteArray) = s := ⟨s.data.toList, by simp⟩
    have hdl : data.length ≤ 281474976710656 := by have := HT.out.2.2.2.2.2.1; rw [← hds] at this; simpa [ByteArray.size] using this
    have HP : Hid (Calls Tryz.prog 52 #[.string s] w4 fun e w' => e = .returned (.tuple #[.agg (replyV (parseR data).1).toArray, .int .i64 (parseR data).2]) ∧ Below w4.heap.size w4 w') := by rw [← hds]; exact parseReply_any data w4 A4.lf.pc.err hdl
    obtain ⟨pr, hpr⟩ : ∃ pr, parseR data = pr := ⟨_, rfl⟩
    have HDat := hid (And.intro hds (And.intro hdl hpr))
    rw [hpr] at HP
    obtain ⟨r, er⟩ := pr
    obtain ⟨xid, dn, vf, acc, low, high, results, rej, why⟩ := r
    obtain ⟨fl, body⟩ := vf
    obtain ⟨bo, hbo⟩ : ∃ bo : ByteArray, (⟨body.toArray⟩ : ByteArray) = bo := ⟨_, rfl⟩
    obtain ⟨res, hres⟩ : ∃ res : ByteArray, (⟨results.toArray⟩ : ByteArray) = res := ⟨_, rfl⟩
    have HP : Hid (Calls Tryz.prog 52 #[.string s] w4 fun e w' => e = .returned (.tuple #[.agg #[.int .i64 xid, .bool dn, .int .i64 fl, .string bo, .int .i64 acc, .int .i64 rej, .int .i64 why, .int .i64 low, .int .i64 high, .string res], .int .i64 er]) ∧ Below w4.heap.size w4 w') := by rw [← hbo, ← hres]; exact HP
    have HA := hid (And.intro A4 am)
    clear A4 m4 am H4 HM3 HW hds hdl hpr hbo hres
    go_wp2_with fail
    refine HP.out.mono ?_
    rintro _ w5 ⟨rfl, hb5⟩
    clear HP
    obtain ⟨S6, hS6⟩ : ∃ y, w5.heap.size = y := ⟨_, rfl⟩
    obtain ⟨y0, hy0⟩ : ∃ y, w5.alloc (.cells #[.int .i64 0, .bool false, .int .i64 0, .string ⟨#[]⟩, .int .i64 0, .int .i64 0, .int .i64 0, .int .i64 0, .int .i64 0, .string ⟨#[]⟩] 46) = y := ⟨_, rfl⟩
    have ky0 : y0.heap[S6]? = some (.cells #[.int .i64 0, .bool false, .int .i64 0, .string ⟨#[]⟩, .int .i64 0, .int .i64 0, .int .i64 0, .int .i64 0, .int .i64 0, .string ⟨#[]⟩] 46) := by rw [← hy0, ← hS6]; exact (MapKept.heap_alloc w5 _).1
    have By0 : Below w5.heap.size w5 y0 := by rw [← hy0]; exact (Below.refl _ _).alloc (Nat.le_refl _) _
    have hley : w5.heap.size ≤ S6 := by omega
    obtain ⟨y1, hy1⟩ : ∃ y, y0.setCell ⟨S6, 0, none⟩ (.int .i64 xid) = y := ⟨_, rfl⟩
    have zy0 : y0.cell? ⟨S6, 0, none⟩ = some (.int .i64 0) := cell_at ky0 rfl
    have fy0 : y0.frozen? ⟨S6, 0, none⟩ = false := frozen_at ky0 0
    have ky1 : y1.heap[S6]? = some (.cells #[.int .i64 xid, .bool false, .int .i64 0, .string ⟨#[]⟩, .int .i64 0, .int .i64 0, .int .i64 0, .int .i64 0, .int .i64 0, .string ⟨#[]⟩] 46) := by rw [← hy1]; exact set_at ky0 0 _
    have By1 : Below w5.heap.size w5 y1 := by rw [← hy1]; exact below_set By0 hley
    obtain ⟨y2, hy2⟩ : ∃ y, y1.setCell ⟨S6, 1, none⟩ (.bool dn) = y := ⟨_, rfl⟩
    have zy1 : y1.cell? ⟨S6, 1, none⟩ = some (.bool false) := cell_at ky1 rfl
    have fy1 : y1.frozen? ⟨S6, 1, none⟩ = false := frozen_at ky1 1
    have ky2 : y2.heap[S6]? = some (.cells #[.int .i64 xid, .bool dn, .int .i64 0, .string ⟨#[]⟩, .int .i64 0, .int .i64 0, .int .i64 0, .int .i64 0, .int .i64 0, .string ⟨#[]⟩] 46) := by rw [← hy2]; exact set_at ky1 1 _
    have By2 : Below w5.heap.size w5 y2 := by rw [← hy2]; exact below_set By1 hley
    clear ky1 By1
    obtain ⟨y3, hy3⟩ : ∃ y, y2.setCell ⟨S6, 2, none⟩ (.int .i64 fl) = y := ⟨_, rfl⟩
    have zy2 : y2.cell? ⟨S6, 2, none⟩ = some (.int .i64 0) := cell_at ky2 rfl
    have fy2 : y2.frozen? ⟨S6, 2, none⟩ = false := frozen_at ky2 2
    have ky3 : y3.heap[S6]? = some (.cells #[.int .i64 xid, .bool dn, .int .i64 fl, .string ⟨#[]⟩, .int .i64 0, .int .i64 0, .int .i64 0, .int .i64 0, .int .i64 0, .string ⟨#[]⟩] 46) := by rw [← hy3]; exact set_at ky2 2 _
    have By3 : Below w5.heap.size w5 y3 := by rw [← hy3]; exact below_set By2 hley
    clear ky2 By2
    obtain ⟨y4, hy4⟩ : ∃ y, y3.setCell ⟨S6, 3, none⟩ (.string bo) = y := ⟨_, rfl⟩
    have zy3 : y3.cell? ⟨S6, 3, none⟩ = some (.string ⟨#[]⟩) := cell_at ky3 rfl
    have fy3 : y3.frozen? ⟨S6, 3, none⟩ = false := frozen_at ky3 3
    have ky4 : y4.heap[S6]? = some (.cells #[.int .i64 xid, .bool dn, .int .i64 fl, .string bo, .int .i64 0, .int .i64 0, .int .i64 0, .int .i64 0, .int .i64 0, .string ⟨#[]⟩] 46) := by rw [← hy4]; exact set_at ky3 3 _
    have By4 : Below w5.heap.size w5 y4 := by rw [← hy4]; exact below_set By3 hley
    clear ky3 By3
    obtain ⟨y5, hy5⟩ : ∃ y, y4.setCell ⟨S6, 4, none⟩ (.int .i64 acc) = y := ⟨_, rfl⟩
    have zy4 : y4.cell? ⟨S6, 4, none⟩ = some (.int .i64 0) := cell_at ky4 rfl
    have fy4 : y4.frozen? ⟨S6, 4, none⟩ = false := frozen_at ky4 4
    have ky5 : y5.heap[S6]? = some (.cells #[.int .i64 xid, .bool dn, .int .i64 fl, .string bo, .int .i64 acc, .int .i64 0, .int .i64 0, .int .i64 0, .int .i64 0, .string ⟨#[]⟩] 46) := by rw [← hy5]; exact set_at ky4 4 _
    have By5 : Below w5.heap.size w5 y5 := by rw [← hy5]; exact below_set By4 hley
    clear ky4 By4
    obtain ⟨y6, hy6⟩ : ∃ y, y5.setCell ⟨S6, 5, none⟩ (.int .i64 rej) = y := ⟨_, rfl⟩
    have zy5 : y5.cell? ⟨S6, 5, none⟩ = some (.int .i64 0) := cell_at ky5 rfl
    have fy5 : y5.frozen? ⟨S6, 5, none⟩ = false := frozen_at ky5 5
    have ky6 : y6.heap[S6]? = some (.cells #[.int .i64 xid, .bool dn, .int .i64 fl, .string bo, .int .i64 acc, .int .i64 rej, .int .i64 0, .int .i64 0, .int .i64 0, .string ⟨#[]⟩] 46) := by rw [← hy6]; exact set_at ky5 5 _
    have By6 : Below w5.heap.size w5 y6 := by rw [← hy6]; exact below_set By5 hley
    clear ky5 By5
    obtain ⟨y7, hy7⟩ : ∃ y, y6.setCell ⟨S6, 6, none⟩ (.int .i64 why) = y := ⟨_, rfl⟩
    have zy6 : y6.cell? ⟨S6, 6, none⟩ = some (.int .i64 0) := cell_at ky6 rfl
    have fy6 : y6.frozen? ⟨S6, 6, none⟩ = false := frozen_at ky6 6
    have ky7 : y7.heap[S6]? = some (.cells #[.int .i64 xid, .bool dn, .int .i64 fl, .string bo, .int .i64 acc, .int .i64 rej, .int .i64 why, .int .i64 0, .int .i64 0, .string ⟨#[]⟩] 46) := by rw [← hy7]; exact set_at ky6 6 _
    have By7 : Below w5.heap.size w5 y7 := by rw [← hy7]; exact below_set By6 hley
    clear ky6 By6
    obtain ⟨y8, hy8⟩ : ∃ y, y7.setCell ⟨S6, 7, none⟩ (.int .i64 low) = y := ⟨_, rfl⟩
    have zy7 : y7.cell? ⟨S6, 7, none⟩ = some (.int .i64 0) := cell_at ky7 rfl
    have fy7 : y7.frozen? ⟨S6, 7, none⟩ = false := frozen_at ky7 7
    have ky8 : y8.heap[S6]? = some (.cells #[.int .i64 xid, .bool dn, .int .i64 fl, .string bo, .int .i64 acc, .int .i64 rej, .int .i64 why, .int .i64 low, .int .i64 0, .string ⟨#[]⟩] 46) := by rw [← hy8]; exact set_at ky7 7 _
    have By8 : Below w5.heap.size w5 y8 := by rw [← hy8]; exact below_set By7 hley
    clear ky7 By7
    obtain ⟨y9, hy9⟩ : ∃ y, y8.setCell ⟨S6, 8, none⟩ (.int .i64 high) = y := ⟨_, rfl⟩
    have zy8 : y8.cell? ⟨S6, 8, none⟩ = some (.int .i64 0) := cell_at ky8 rfl
    have fy8 : y8.frozen? ⟨S6, 8, none⟩ = false := frozen_at ky8 8
    have ky9 : y9.heap[S6]? = some (.cells #[.int .i64 xid, .bool dn, .int .i64 fl, .string bo, .int .i64 acc, .int .i64 rej, .int .i64 why, .int .i64 low, .int .i64 high, .string ⟨#[]⟩] 46) := by rw [← hy9]; exact set_at ky8 8 _
    have By9 : Below w5.heap.size w5 y9 := by rw [← hy9]; exact below_set By8 hley
    clear ky8 By8
    obtain ⟨w6, hw6⟩ : ∃ y, y9.setCell ⟨S6, 9, none⟩ (.string res) = y := ⟨_, rfl⟩
    have zy9 : y9.cell? ⟨S6, 9, none⟩ = some (.string ⟨#[]⟩) := cell_at ky9 rfl
    have fy9 : y9.frozen? ⟨S6, 9, none⟩ = false := frozen_at ky9 9
    have kw6 : w6.heap[S6]? = some (.cells #[.int .i64 xid, .bool dn, .int .i64 fl, .string bo, .int .i64 acc, .int .i64 rej, .int .i64 why, .int .i64 low, .int .i64 high, .string res] 46) := by rw [← hw6]; exact set_at ky9 9 _
    have Bw6 : Below w5.heap.size w5 w6 := by rw [← hw6]; exact below_set By9 hley
    clear ky9 By9
    clear ky0 By0 hley
    have hB6 : Below w4.heap.size w4 w6 := hb5.trans (Bw6.mono hb5.size)
    have m6 := Mv.of_below hB6 K4 (fun _ => t + 31)
    have A6 := HA.out.1.to m6 (fun _ e => e.elim)
    have hK6 : ext w4 K4 (fun _ => t + 31) S6 = t + 31 := ext_new (by have := hb5.size; omega)
    have am6 := HA.out.2.trans (m6.mono (fun _ e => e.elim))
    generalize ext w4 K4 (fun _ => t + 31) = K6 at m6 A6 hK6 am6
    have hdr : Mv (fun _ => False) w6 w6.drew K6 K6 := Mv.drew _ w6 K6
    have AD := A6.to hdr (fun _ e => e.elim)
    have HH := AD.lf.hear_any 65636 65537 data HDat.out.2.1
    rw [HDat.out.1, HDat.out.2.2] at HH
    have s0 : w6.drew.cell? ⟨xb, 0, none⟩ = some (ptr p) ∧ w6.drew.cell? ⟨S1, 2, none⟩ = some (.string s) := ⟨cell_at (w := w6) A6.lf.me.at_ rfl, cell_at (w := w6) A6.a.at_ rfl⟩
    have HD := hid HH
    have HOM := hid A6.lf.om
    have HQ : Hid (∀ w7 z, Hid (∃ K' L' D' vw' vd' q', LF K' w7 B t p xb c oa cap next now L' D' vw' vd' q' (.slice (some ⟨gI, 0, none⟩) mI cI) I n1 n2 ∧ D'.length ≤ 50000000 ∧ Mv (fun u => t ≤ u ∧ u ≤ t + 5) w6.drew w7 K6 K') →
        ((z = 0 ∧ ((65537 : Int) ≠ 65537 ∨ er ≠ 0 ∨ (65636 : Int) ≠ 65636 ∨ ∀ y ∈ L, y.seq ≠ xid)) ∨ (z = xid ∧ 9 ≤ z ∧ (65537 : Int) = 65537 ∧ er = 0 ∧ (65636 : Int) = 65636 ∧ ∃ y ∈ L, y.seq = xid)) →
        (w7.cell? ⟨xb, 0, none⟩ = some (ptr p) ∧ w7.cell? ⟨S1, 2, none⟩ = some (.string s)) ∧ w7.heap[S6]? = some (.cells #[.int .i64 xid, .bool dn, .int .i64 fl, .string bo, .int .i64 acc, .int .i64 rej, .int .i64 why, .int .i64 low, .int .i64 high, .string res] 46) ∧ w7.cell? ⟨xb, 1, none⟩ = some (.slice (some ⟨gI, 0, none⟩) mI cI) ∧ Calls Tryz.prog 48 #[ptr xb, .int .i64 xid] w7 (fun e w' => e = .returned (.int .i64 (ofP mI xid)) ∧ w' = w7) ∧
        (∀ (k : Nat) (i : Is), I[k]? = some i → ∀ g, (some ⟨gI, 0, none⟩) = some (⟨g, 0, none⟩ : Addr) → w7.cell? ⟨g, k * 4 + 3, none⟩ = some (.bool i.over)) ∧ Hid (∃ K' next' now7 L' D' vw7 vd' q' vi' I' n2', LF K' w7 B t p xb c oa cap next' now7 L' D' vw7 vd' q' vi' I' n1 n2' ∧ (I'.length ≤ I.length + 1 ∧ now7 ≤ now + 1 ∧ D'.length ≤ 50000000) ∧ Mv (fun u => t ≤ u) w w7 K K')) := by
      intro w7 z h7 _
      obtain ⟨K7, L7, D7, vw7, vd7, q7, F7, e7, m7⟩ := h7.out
      have m67 := hdr.mono (T' := fun u => t ≤ u ∧ u ≤ t + 5) (fun _ e => e.elim)
      have hl6 := (Array.getElem?_eq_some_iff.1 kw6).1
      have hof := F7.of_any xid
      rw [HT.out.2.2.1] at hof
      refine ⟨⟨F7.ce0.1, cell_at (AD.a.mv m7 (by omega)).at_ rfl⟩, (m7.kept S6 hl6 (by rw [hK6]; omega)).trans kw6, F7.ce0.2.1, hof, fun k i hi g hg => ?_, ⟨K7, _, _, L7, D7, vw7, vd7, q7, _, I, n2, F7, ⟨by omega, by omega, e7⟩, am6.trans ((hdr.mono (fun _ e => e.elim)).trans (m7.mono (fun u e => e.1)))⟩⟩
      have hr := F7.is
      rw [hg] at hr
      exact (hr.is4 HT.out.2.2.1 hi).2.2.2
    clear A6 AD am6 m6 hdr HH kw6 Bw6 hb5 hB6 hK6 HA a0 a2 
    go_wp2_with fail
    refine wp_region_last (S := fun w' => w'.cell? ⟨xb, 0, none⟩ = some (ptr p) ∧ w'.cell? ⟨S1, 2, none⟩ = some (.string s)) (n := 8) (by kernel_rfl) rfl (by kernel_rfl) (by kernel_rfl) ?_ (fun hHeldA => ?_)
    · exact s0
    refine wpAnyH_take (i := 0) (v := ?_) rfl (by kernel_rfl) (by kernel_rfl) (by kernel_rfl) (fun _ _ _ h => h) (Or.inl ⟨by rfl, ?_⟩) (by assumption) ?_
    rotate_left
    · (intro w hSw; (try dsimp only at hSw); go_simp; try with_reducible rfl)
    try simp only [Act.put]
    try simp only [List.setIfInBounds_toArray]
    try simp only [List.set_cons_succ]
    try simp only [List.set_cons_zero]
    refine wpAnyH_take (i := 1) (v := ?_) rfl (by kernel_rfl) (by kernel_rfl) (by kernel_rfl) (fun _ _ _ h => h) (Or.inl ⟨by rfl, ?_⟩) (by assumption) ?_
    rotate_left
    · (intro w hSw; (try dsimp only at hSw); go_simp; try with_reducible rfl)
    try simp only [Act.put]
    try simp only [List.setIfInBounds_toArray]
    try simp only [List.set_cons_succ]
    try simp only [List.set_cons_zero]
    refine wpAnyH_take (i := 2) (v := ?_) rfl (by kernel_rfl) (by kernel_rfl) (by kernel_rfl) (fun _ _ _ h => h) (Or.inl ⟨by rfl, ?_⟩) (by assumption) ?_
    rotate_left
    · (intro w hSw; (try dsimp only at hSw); go_simp; try with_reducible rfl)
    try simp only [Act.put]
    try simp only [List.setIfInBounds_toArray]
    try simp only [List.set_cons_succ]
    try simp only [List.set_cons_zero]
    refine wpAnyH_take (i := 3) (v := ?_) rfl (by kernel_rfl) (by kernel_rfl) (by kernel_rfl) (fun _ _ _ h => h) (Or.inl ⟨by rfl, ?_⟩) (by assumption) ?_
    rotate_left
    · (intro w hSw; (try dsimp only at hSw); go_simp; try with_reducible rfl)
    try simp only [Act.put]
    try simp only [List.setIfInBounds_toArray]
    try simp only [List.set_cons_succ]
    try simp only [List.set_cons_zero]
    refine wpAnyH_take (i := 4) (v := ?_) rfl (by kernel_rfl) (by kernel_rfl) (by kernel_rfl) (fun _ _ _ h => h) (Or.inl ⟨by rfl, ?_⟩) (by assumption) ?_
    rotate_left
    · (intro w hSw; (try dsimp only at hSw); go_simp; try with_reducible rfl)
    try simp only [Act.put]
    try simp only [List.setIfInBounds_toArray]
    try simp only [List.set_cons_succ]
    try simp only [List.set_cons_zero]
    refine wpAnyH_take (i := 5) (v := ?_) rfl (by kernel_rfl) (by kernel_rfl) (by kernel_rfl) (fun _ _ _ h => h) (Or.inl ⟨by rfl, ?_⟩) (by assumption) ?_
    rotate_left
    · (intro w hSw; (try dsimp only at hSw); go_simp; try with_reducible rfl)
    try simp only [Act.put]
    try simp only [List.setIfInBounds_toArray]
    try simp only [List.set_cons_succ]
    try simp only [List.set_cons_zero]
    refine wpAnyH_take (i := 6) (v := ?_) rfl (by kernel_rfl) (by kernel_rfl) (by kernel_rfl) (fun _ _ _ h => h) (Or.inl ⟨by rfl, ?_⟩) (by assumption) ?_
    rotate_left
    · (intro w hSw; (try dsimp only at hSw); go_simp; try with_reducible rfl)
    try simp only [Act.put]
    try simp only [List.setIfInBounds_toArray]
    try simp only [List.set_cons_succ]
    try simp only [List.set_cons_zero]
    refine wpAnyH_ready (rs := [7]) (by kernel_rfl) (by simp) ?_
    refine AllReadyH.cons rfl (fun KK hK => ?_) AllReadyH.nil
    go_simp
    refine HD.out.mono ?_
    rintro _ w7 ⟨z, rfl, hz, h7⟩
    have H7 := hid (HQ.out w7 z h7 hz)
    have s7 := H7.out.1
    clear HD HQ h7
    refine hK.out _ _ ?_ (fun hHeldZ => ?_)
    · exact s7
    clear hK hHeldA
    try simp only [Act.put]
    try simp only [List.setIfInBounds_toArray]
    try simp only [List.set_cons_succ]
    try simp only [List.set_cons_zero]
    refine wpAnyH_done (by kernel_rfl) ?_ _
    refine LastQ.done ?_
    refine wpOp_step (i := 8) rfl (fun KK hK => ?_)
    have HK := hid hK
    clear hK
    go_simp
    refine HK.out _ _ ?_
    clear HK
    clear s0 hHeldZ
    have c60 : w7.cell? ⟨S6, 0, none⟩ = some (.int .i64 xid) := cell_at H7.out.2.1 rfl
    have x7 := H7.out.2.2.1
    have HOf := hid H7.out.2.2.2.1
    by_cases her : er = 0
    case neg =>
      have he1 : (er == 0) = false := by simpa using her
      have hz0 : z = 0 := by
        rcases hz with ⟨e, _⟩ | ⟨_, _, _, e, _⟩
        · exact e
        · exact absurd e her
      subst hz0
      have HR := hid H7.out.2.2.2.2.2
      clear H7 hz her
      go_wp2_with fail
      refine HOf.out.mono ?_
      rintro _ _ ⟨rfl, rfl⟩
      clear HOf
      go_wp2
      go_ret
      exact ⟨rfl, HR.out.out⟩
    subst her
    have hof2 : (∃ k : Nat, k < mI ∧ ofP mI xid = k ∧ xid = 9 + k) ∨ (ofP mI xid = -1 ∧ ∀ y ∈ L, y.seq ≠ xid) := by
      unfold ofP
      by_cases e : 9 ≤ xid ∧ xid < 9 + (mI : Int)
      · exact .inl ⟨(xid - 9).toNat, by omega, by rw [if_pos e]; omega, by omega⟩
      · refine .inr ⟨if_neg e, fun y hy ey => ?_⟩
        have h1 := HOM.out.seq_lt hy
        have h2 := HOM.out.nxt
        rw [HT.out.2.2.1] at h2
        omega
    rcases hof2 with ⟨k, hkm', hk, hxk⟩ | ⟨hk, hno⟩
    case inr =>
      have hz0 : z = 0 := by
        rcases hz with ⟨e, _⟩ | ⟨_, _, _, _, _, y, hy, ey⟩
        · exact e
        · exact absurd ey (hno y hy)
      subst hz0
      have HR := hid H7.out.2.2.2.2.2
      rw [hk] at HOf
      clear H7 hz hno hk
      go_wp2_with fail
      refine HOf.out.mono ?_
      rintro _ _ ⟨rfl, rfl⟩
      clear HOf
      go_wp2
      go_ret
      exact ⟨rfl, HR.out.out⟩
    obtain ⟨g5, hg5⟩ : ∃ g, (some ⟨gI, 0, none⟩) = some (⟨g, 0, none⟩ : Addr) := by
      first
        | exact ⟨_, rfl⟩
        | exact HG.out (by rw [HT.out.2.2.1]; omega)
    obtain ⟨i5, hi5⟩ : ∃ i, I[k]? = some i := ⟨_, List.getElem?_eq_getElem (by rw [HT.out.2.2.1]; exact hkm')⟩
    have y3 := H7.out.2.2.2.2.1 k i5 hi5 g5 hg5
    obtain ⟨ov, hov⟩ : ∃ ov, i5.over = ov := ⟨_, rfl⟩
    rw [hov] at y3
    have HZ : Hid ((ov = false ∧ (z == 0) = false) ∨ (ov = true ∧ z = 0)) := by
      have hn5 := HOM.out.num k i5 hi5
      cases ov
      · refine .inl ⟨rfl, ?_⟩
        rcases hz with ⟨_, e⟩ | ⟨e1, e2, _⟩
        · exfalso
          rcases HOM.out.all k i5 hi5 hov with ⟨x, hx, ex⟩ | ⟨d, hd, _⟩
          · rcases e with e | e | e | e
            · exact e rfl
            · exact e rfl
            · exact e rfl
            · exact e x hx (by omega)
          · cases hd
        · simp; omega
      · refine .inr ⟨rfl, ?_⟩
        rcases hz with ⟨e, _⟩ | ⟨_, _, _, _, _, y, hy, ey⟩
        · exact e
        · exfalso
          obtain ⟨k', i', b1, b2, b3, _⟩ := HOM.out.wt y hy
          obtain ⟨_, e2⟩ := HOM.out.same_at b1 hi5 (by have := b3.seq; omega)
          rw [e2, hov] at b2
          cases b2
    have hk0 : decide ((0 : Int) ≤ (k : Int)) = true := decide_eq_true (by omega)
    have hkm2 : (k : Int) < (mI : Int) := by omega
    have hkm3 : (0 : Int) ≤ (k : Int) := by omega
    have HR := hid H7.out.2.2.2.2.2
    rw [hk] at HOf
    rw [hg5] at x7
    clear H7 hz hk hxk hi5 hov hg5 hkm'
    go_wp2_with fail
    refine HOf.out.mono ?_
    rintro _ _ ⟨rfl, rfl⟩
    clear HOf
    rcases HZ.out with ⟨rfl, hz0⟩ | ⟨rfl, rfl⟩
    · have hz1 : (z != 0) = true := by rw [bne, hz0]; rfl
      clear HZ
      go_wp2
      go_ret
      exact ⟨rfl, HR.out.out⟩
    · clear HZ
      go_wp2
      go_ret
      exact ⟨rfl, HR.out.out⟩
  · have HW : Hid (false = true ↔ ∃ y ∈ L, y.seq = nn) := by
      refine ⟨fun e => by (cases e), fun ⟨y, hy, ey⟩ => ?_⟩
      have h1 := (A3.lf.om.seq_lt hy).2
      have h2 := A3.lf.om.nxt
      rw [HT.out.2.2.1] at h2
      omega
    clear A3 hke hnk
    go_wp2_with fail
    refine H49.out.mono ?_
    rintro _ w4 ⟨rfl, H4⟩
    clear H49
    obtain ⟨K4, A4, m4⟩ := H4.out
    have am := HM3.out.2.trans m4
    have a0 : w4.cell? ⟨S1, 0, none⟩ = some (.int .i64 5) := cell_at A4.a.at_ rfl
    have a2 : w4.cell? ⟨S1, 2, none⟩ = some (.string s) := cell_at A4.a.at_ rfl
    obtain ⟨data, hds⟩ : ∃ data : List UInt8, (⟨data.toArray⟩ : ByteArray) = s := ⟨s.data.toList, by simp⟩
    have hdl : data.length ≤ 281474976710656 := by have := HT.out.2.2.2.2.2.1; rw [← hds] at this; simpa [ByteArray.size] using this
    have HP : Hid (Calls Tryz.prog 52 #[.string s] w4 fun e w' => e = .returned (.tuple #[.agg (replyV (parseR data).1).toArray, .int .i64 (parseR data).2]) ∧ Below w4.heap.size w4 w') := by rw [← hds]; exact parseReply_any data w4 A4.lf.pc.err hdl
    obtain ⟨pr, hpr⟩ : ∃ pr, parseR data = pr := ⟨_, rfl⟩
    have HDat := hid (And.intro hds (And.intro hdl hpr))
    rw [hpr] at HP
    obtain ⟨r, er⟩ := pr
    obtain ⟨xid, dn, vf, acc, low, high, results, rej, why⟩ := r
    obtain ⟨fl, body⟩ := vf
    obtain ⟨bo, hbo⟩ : ∃ bo : ByteArray, (⟨body.toArray⟩ : ByteArray) = bo := ⟨_, rfl⟩
    obtain ⟨res, hres⟩ : ∃ res : ByteArray, (⟨results.toArray⟩ : ByteArray) = res := ⟨_, rfl⟩
    have HP : Hid (Calls Tryz.prog 52 #[.string s] w4 fun e w' => e = .returned (.tuple #[.agg #[.int .i64 xid, .bool dn, .int .i64 fl, .string bo, .int .i64 acc, .int .i64 rej, .int .i64 why, .int .i64 low, .int .i64 high, .string res], .int .i64 er]) ∧ Below w4.heap.size w4 w') := by rw [← hbo, ← hres]; exact HP
    have HA := hid (And.intro A4 am)
    clear A4 m4 am H4 HM3 HW hds hdl hpr hbo hres
    go_wp2_with fail
    refine HP.out.mono ?_
    rintro _ w5 ⟨rfl, hb5⟩
    clear HP
    obtain ⟨S6, hS6⟩ : ∃ y, w5.heap.size = y := ⟨_, rfl⟩
    obtain ⟨y0, hy0⟩ : ∃ y, w5.alloc (.cells #[.int .i64 0, .bool false, .int .i64 0, .string ⟨#[]⟩, .int .i64 0, .int .i64 0, .int .i64 0, .int .i64 0, .int .i64 0, .string ⟨#[]⟩] 46) = y := ⟨_, rfl⟩
    have ky0 : y0.heap[S6]? = some (.cells #[.int .i64 0, .bool false, .int .i64 0, .string ⟨#[]⟩, .int .i64 0, .int .i64 0, .int .i64 0, .int .i64 0, .int .i64 0, .string ⟨#[]⟩] 46) := by rw [← hy0, ← hS6]; exact (MapKept.heap_alloc w5 _).1
    have By0 : Below w5.heap.size w5 y0 := by rw [← hy0]; exact (Below.refl _ _).alloc (Nat.le_refl _) _
    have hley : w5.heap.size ≤ S6 := by omega
    obtain ⟨y1, hy1⟩ : ∃ y, y0.setCell ⟨S6, 0, none⟩ (.int .i64 xid) = y := ⟨_, rfl⟩
    have zy0 : y0.cell? ⟨S6, 0, none⟩ = some (.int .i64 0) := cell_at ky0 rfl
    have fy0 : y0.frozen? ⟨S6, 0, none⟩ = false := frozen_at ky0 0
    have ky1 : y1.heap[S6]? = some (.cells #[.int .i64 xid, .bool false, .int .i64 0, .string ⟨#[]⟩, .int .i64 0, .int .i64 0, .int .i64 0, .int .i64 0, .int .i64 0, .string ⟨#[]⟩] 46) := by rw [← hy1]; exact set_at ky0 0 _
    have By1 : Below w5.heap.size w5 y1 := by rw [← hy1]; exact below_set By0 hley
    obtain ⟨y2, hy2⟩ : ∃ y, y1.setCell ⟨S6, 1, none⟩ (.bool dn) = y := ⟨_, rfl⟩
    have zy1 : y1.cell? ⟨S6, 1, none⟩ = some (.bool false) := cell_at ky1 rfl
    have fy1 : y1.frozen? ⟨S6, 1, none⟩ = false := frozen_at ky1 1
    have ky2 : y2.heap[S6]? = some (.cells #[.int .i64 xid, .bool dn, .int .i64 0, .string ⟨#[]⟩, .int .i64 0, .int .i64 0, .int .i64 0, .int .i64 0, .int .i64 0, .string ⟨#[]⟩] 46) := by rw [← hy2]; exact set_at ky1 1 _
    have By2 : Below w5.heap.size w5 y2 := by rw [← hy2]; exact below_set By1 hley
    clear ky1 By1
    obtain ⟨y3, hy3⟩ : ∃ y, y2.setCell ⟨S6, 2, none⟩ (.int .i64 fl) = y := ⟨_, rfl⟩
    have zy2 : y2.cell? ⟨S6, 2, none⟩ = some (.int .i64 0) := cell_at ky2 rfl
    have fy2 : y2.frozen? ⟨S6, 2, none⟩ = false := frozen_at ky2 2
    have ky3 : y3.heap[S6]? = some (.cells #[.int .i64 xid, .bool dn, .int .i64 fl, .string ⟨#[]⟩, .int .i64 0, .int .i64 0, .int .i64 0, .int .i64 0, .int .i64 0, .string ⟨#[]⟩] 46) := by rw [← hy3]; exact set_at ky2 2 _
    have By3 : Below w5.heap.size w5 y3 := by rw [← hy3]; exact below_set By2 hley
    clear ky2 By2
    obtain ⟨y4, hy4⟩ : ∃ y, y3.setCell ⟨S6, 3, none⟩ (.string bo) = y := ⟨_, rfl⟩
    have zy3 : y3.cell? ⟨S6, 3, none⟩ = some (.string ⟨#[]⟩) := cell_at ky3 rfl
    have fy3 : y3.frozen? ⟨S6, 3, none⟩ = false := frozen_at ky3 3
    have ky4 : y4.heap[S6]? = some (.cells #[.int .i64 xid, .bool dn, .int .i64 fl, .string bo, .int .i64 0, .int .i64 0, .int .i64 0, .int .i64 0, .int .i64 0, .string ⟨#[]⟩] 46) := by rw [← hy4]; exact set_at ky3 3 _
    have By4 : Below w5.heap.size w5 y4 := by rw [← hy4]; exact below_set By3 hley
    clear ky3 By3
    obtain ⟨y5, hy5⟩ : ∃ y, y4.setCell ⟨S6, 4, none⟩ (.int .i64 acc) = y := ⟨_, rfl⟩
    have zy4 : y4.cell? ⟨S6, 4, none⟩ = some (.int .i64 0) := cell_at ky4 rfl
    have fy4 : y4.frozen? ⟨S6, 4, none⟩ = false := frozen_at ky4 4
    have ky5 : y5.heap[S6]? = some (.cells #[.int .i64 xid, .bool dn, .int .i64 fl, .string bo, .int .i64 acc, .int .i64 0, .int .i64 0, .int .i64 0, .int .i64 0, .string ⟨#[]⟩] 46) := by rw [← hy5]; exact set_at ky4 4 _
    have By5 : Below w5.heap.size w5 y5 := by rw [← hy5]; exact below_set By4 hley
    clear ky4 By4
    obtain ⟨y6, hy6⟩ : ∃ y, y5.setCell ⟨S6, 5, none⟩ (.int .i64 rej) = y := ⟨_, rfl⟩
    have zy5 : y5.cell? ⟨S6, 5, none⟩ = some (.int .i64 0) := cell_at ky5 rfl
    have fy5 : y5.frozen? ⟨S6, 5, none⟩ = false := frozen_at ky5 5
    have ky6 : y6.heap[S6]? = some (.cells #[.int .i64 xid, .bool dn, .int .i64 fl, .string bo, .int .i64 acc, .int .i64 rej, .int .i64 0, .int .i64 0, .int .i64 0, .string ⟨#[]⟩] 46) := by rw [← hy6]; exact set_at ky5 5 _
    have By6 : Below w5.heap.size w5 y6 := by rw [← hy6]; exact below_set By5 hley
    clear ky5 By5
    obtain ⟨y7, hy7⟩ : ∃ y, y6.setCell ⟨S6, 6, none⟩ (.int .i64 why) = y := ⟨_, rfl⟩
    have zy6 : y6.cell? ⟨S6, 6, none⟩ = some (.int .i64 0) := cell_at ky6 rfl
    have fy6 : y6.frozen? ⟨S6, 6, none⟩ = false := frozen_at ky6 6
    have ky7 : y7.heap[S6]? = some (.cells #[.int .i64 xid, .bool dn, .int .i64 fl, .string bo, .int .i64 acc, .int .i64 rej, .int .i64 why, .int .i64 0, .int .i64 0, .string ⟨#[]⟩] 46) := by rw [← hy7]; exact set_at ky6 6 _
    have By7 : Below w5.heap.size w5 y7 := by rw [← hy7]; exact below_set By6 hley
    clear ky6 By6
    obtain ⟨y8, hy8⟩ : ∃ y, y7.setCell ⟨S6, 7, none⟩ (.int .i64 low) = y := ⟨_, rfl⟩
    have zy7 : y7.cell? ⟨S6, 7, none⟩ = some (.int .i64 0) := cell_at ky7 rfl
    have fy7 : y7.frozen? ⟨S6, 7, none⟩ = false := frozen_at ky7 7
    have ky8 : y8.heap[S6]? = some (.cells #[.int .i64 xid, .bool dn, .int .i64 fl, .string bo, .int .i64 acc, .int .i64 rej, .int .i64 why, .int .i64 low, .int .i64 0, .string ⟨#[]⟩] 46) := by rw [← hy8]; exact set_at ky7 7 _
    have By8 : Below w5.heap.size w5 y8 := by rw [← hy8]; exact below_set By7 hley
    clear ky7 By7
    obtain ⟨y9, hy9⟩ : ∃ y, y8.setCell ⟨S6, 8, none⟩ (.int .i64 high) = y := ⟨_, rfl⟩
    have zy8 : y8.cell? ⟨S6, 8, none⟩ = some (.int .i64 0) := cell_at ky8 rfl
    have fy8 : y8.frozen? ⟨S6, 8, none⟩ = false := frozen_at ky8 8
    have ky9 : y9.heap[S6]? = some (.cells #[.int .i64 xid, .bool dn, .int .i64 fl, .string bo, .int .i64 acc, .int .i64 rej, .int .i64 why, .int .i64 low, .int .i64 high, .string ⟨#[]⟩] 46) := by rw [← hy9]; exact set_at ky8 8 _
    have By9 : Below w5.heap.size w5 y9 := by rw [← hy9]; exact below_set By8 hley
    clear ky8 By8
    obtain ⟨w6, hw6⟩ : ∃ y, y9.setCell ⟨S6, 9, none⟩ (.string res) = y := ⟨_, rfl⟩
    have zy9 : y9.cell? ⟨S6, 9, none⟩ = some (.string ⟨#[]⟩) := cell_at ky9 rfl
    have fy9 : y9.frozen? ⟨S6, 9, none⟩ = false := frozen_at ky9 9
    have kw6 : w6.heap[S6]? = some (.cells #[.int .i64 xid, .bool dn, .int .i64 fl, .string bo, .int .i64 acc, .int .i64 rej, .int .i64 why, .int .i64 low, .int .i64 high, .string res] 46) := by rw [← hw6]; exact set_at ky9 9 _
    have Bw6 : Below w5.heap.size w5 w6 := by rw [← hw6]; exact below_set By9 hley
    clear ky9 By9
    clear ky0 By0 hley
    have hB6 : Below w4.heap.size w4 w6 := hb5.trans (Bw6.mono hb5.size)
    have m6 := Mv.of_below hB6 K4 (fun _ => t + 31)
    have A6 := HA.out.1.to m6 (fun _ e => e.elim)
    have hK6 : ext w4 K4 (fun _ => t + 31) S6 = t + 31 := ext_new (by have := hb5.size; omega)
    have am6 := HA.out.2.trans (m6.mono (fun _ e => e.elim))
    generalize ext w4 K4 (fun _ => t + 31) = K6 at m6 A6 hK6 am6
    have hdr : Mv (fun _ => False) w6 w6.drew K6 K6 := Mv.drew _ w6 K6
    have AD := A6.to hdr (fun _ e => e.elim)
    have HH := AD.lf.hear_any 65636 65537 data HDat.out.2.1
    rw [HDat.out.1, HDat.out.2.2] at HH
    have s0 : w6.drew.cell? ⟨xb, 0, none⟩ = some (ptr p) ∧ w6.drew.cell? ⟨S1, 2, none⟩ = some (.string s) := ⟨cell_at (w := w6) A6.lf.me.at_ rfl, cell_at (w := w6) A6.a.at_ rfl⟩
    have HD := hid HH
    have HOM := hid A6.lf.om
    have HQ : Hid (∀ w7 z, Hid (∃ K' L' D' vw' vd' q', LF K' w7 B t p xb c oa cap next now L' D' vw' vd' q' (.slice oI mI cI) I n1 n2 ∧ D'.length ≤ 50000000 ∧ Mv (fun u => t ≤ u ∧ u ≤ t + 5) w6.drew w7 K6 K') →
        ((z = 0 ∧ ((65537 : Int) ≠ 65537 ∨ er ≠ 0 ∨ (65636 : Int) ≠ 65636 ∨ ∀ y ∈ L, y.seq ≠ xid)) ∨ (z = xid ∧ 9 ≤ z ∧ (65537 : Int) = 65537 ∧ er = 0 ∧ (65636 : Int) = 65636 ∧ ∃ y ∈ L, y.seq = xid)) →
        (w7.cell? ⟨xb, 0, none⟩ = some (ptr p) ∧ w7.cell? ⟨S1, 2, none⟩ = some (.string s)) ∧ w7.heap[S6]? = some (.cells #[.int .i64 xid, .bool dn, .int .i64 fl, .string bo, .int .i64 acc, .int .i64 rej, .int .i64 why, .int .i64 low, .int .i64 high, .string res] 46) ∧ w7.cell? ⟨xb, 1, none⟩ = some (.slice oI mI cI) ∧ Calls Tryz.prog 48 #[ptr xb, .int .i64 xid] w7 (fun e w' => e = .returned (.int .i64 (ofP mI xid)) ∧ w' = w7) ∧
        (∀ (k : Nat) (i : Is), I[k]? = some i → ∀ g, oI = some (⟨g, 0, none⟩ : Addr) → w7.cell? ⟨g, k * 4 + 3, none⟩ = some (.bool i.over)) ∧ Hid (∃ K' next' now7 L' D' vw7 vd' q' vi' I' n2', LF K' w7 B t p xb c oa cap next' now7 L' D' vw7 vd' q' vi' I' n1 n2' ∧ (I'.length ≤ I.length + 1 ∧ now7 ≤ now + 1 ∧ D'.length ≤ 50000000) ∧ Mv (fun u => t ≤ u) w w7 K K')) := by
      intro w7 z h7 _
      obtain ⟨K7, L7, D7, vw7, vd7, q7, F7, e7, m7⟩ := h7.out
      have m67 := hdr.mono (T' := fun u => t ≤ u ∧ u ≤ t + 5) (fun _ e => e.elim)
      have hl6 := (Array.getElem?_eq_some_iff.1 kw6).1
      have hof := F7.of_any xid
      rw [HT.out.2.2.1] at hof
      refine ⟨⟨F7.ce0.1, cell_at (AD.a.mv m7 (by omega)).at_ rfl⟩, (m7.kept S6 hl6 (by rw [hK6]; omega)).trans kw6, F7.ce0.2.1, hof, fun k i hi g hg => ?_, ⟨K7, _, _, L7, D7, vw7, vd7, q7, _, I, n2, F7, ⟨by omega, by omega, e7⟩, am6.trans ((hdr.mono (fun _ e => e.elim)).trans (m7.mono (fun u e => e.1)))⟩⟩
      have hr := F7.is
      rw [hg] at hr
      exact (hr.is4 HT.out.2.2.1 hi).2.2.2
    clear A6 AD am6 m6 hdr HH kw6 Bw6 hb5 hB6 hK6 HA a0 a2 
    go_wp2_with fail
    refine wp_region_last (S := fun w' => w'.cell? ⟨xb, 0, none⟩ = some (ptr p) ∧ w'.cell? ⟨S1, 2, none⟩ = some (.string s)) (n := 8) (by kernel_rfl) rfl (by kernel_rfl) (by kernel_rfl) ?_ (fun hHeldA => ?_)
    · exact s0
    refine wpAnyH_take (i := 0) (v := ?_) rfl (by kernel_rfl) (by kernel_rfl) (by kernel_rfl) (fun _ _ _ h => h) (Or.inl ⟨by rfl, ?_⟩) (by assumption) ?_
    rotate_left
    · (intro w hSw; (try dsimp only at hSw); go_simp; try with_reducible rfl)
    try simp only [Act.put]
    try simp only [List.setIfInBounds_toArray]
    try simp only [List.set_cons_succ]
    try simp only [List.set_cons_zero]
    refine wpAnyH_take (i := 1) (v := ?_) rfl (by kernel_rfl) (by kernel_rfl) (by kernel_rfl) (fun _ _ _ h => h) (Or.inl ⟨by rfl, ?_⟩) (by assumption) ?_
    rotate_left
    · (intro w hSw; (try dsimp only at hSw); go_simp; try with_reducible rfl)
    try simp only [Act.put]
    try simp only [List.setIfInBounds_toArray]
    try simp only [List.set_cons_succ]
    try simp only [List.set_cons_zero]
    refine wpAnyH_take (i := 2) (v := ?_) rfl (by kernel_rfl) (by kernel_rfl) (by kernel_rfl) (fun _ _ _ h => h) (Or.inl ⟨by rfl, ?_⟩) (by assumption) ?_
    rotate_left
    · (intro w hSw; (try dsimp only at hSw); go_simp; try with_reducible rfl)
    try simp only [Act.put]
    try simp only [List.setIfInBounds_toArray]
    try simp only [List.set_cons_succ]
    try simp only [List.set_cons_zero]
    refine wpAnyH_take (i := 3) (v := ?_) rfl (by kernel_rfl) (by kernel_rfl) (by kernel_rfl) (fun _ _ _ h => h) (Or.inl ⟨by rfl, ?_⟩) (by assumption) ?_
    rotate_left
    · (intro w hSw; (try dsimp only at hSw); go_simp; try with_reducible rfl)
    try simp only [Act.put]
    try simp only [List.setIfInBounds_toArray]
    try simp only [List.set_cons_succ]
    try simp only [List.set_cons_zero]
    refine wpAnyH_take (i := 4) (v := ?_) rfl (by kernel_rfl) (by kernel_rfl) (by kernel_rfl) (fun _ _ _ h => h) (Or.inl ⟨by rfl, ?_⟩) (by assumption) ?_
    rotate_left
    · (intro w hSw; (try dsimp only at hSw); go_simp; try with_reducible rfl)
    try simp only [Act.put]
    try simp only [List.setIfInBounds_toArray]
    try simp only [List.set_cons_succ]
    try simp only [List.set_cons_zero]
    refine wpAnyH_take (i := 5) (v := ?_) rfl (by kernel_rfl) (by kernel_rfl) (by kernel_rfl) (fun _ _ _ h => h) (Or.inl ⟨by rfl, ?_⟩) (by assumption) ?_
    rotate_left
    · (intro w hSw; (try dsimp only at hSw); go_simp; try with_reducible rfl)
    try simp only [Act.put]
    try simp only [List.setIfInBounds_toArray]
    try simp only [List.set_cons_succ]
    try simp only [List.set_cons_zero]
    refine wpAnyH_take (i := 6) (v := ?_) rfl (by kernel_rfl) (by kernel_rfl) (by kernel_rfl) (fun _ _ _ h => h) (Or.inl ⟨by rfl, ?_⟩) (by assumption) ?_
    rotate_left
    · (intro w hSw; (try dsimp only at hSw); go_simp; try with_reducible rfl)
    try simp only [Act.put]
    try simp only [List.setIfInBounds_toArray]
    try simp only [List.set_cons_succ]
    try simp only [List.set_cons_zero]
    refine wpAnyH_ready (rs := [7]) (by kernel_rfl) (by simp) ?_
    refine AllReadyH.cons rfl (fun KK hK => ?_) AllReadyH.nil
    go_simp
    refine HD.out.mono ?_
    rintro _ w7 ⟨z, rfl, hz, h7⟩
    have H7 := hid (HQ.out w7 z h7 hz)
    have s7 := H7.out.1
    clear HD HQ h7
    refine hK.out _ _ ?_ (fun hHeldZ => ?_)
    · exact s7
    clear hK hHeldA
    try simp only [Act.put]
    try simp only [List.setIfInBounds_toArray]
    try simp only [List.set_cons_succ]
    try simp only [List.set_cons_zero]
    refine wpAnyH_done (by kernel_rfl) ?_ _
    refine LastQ.done ?_
    refine wpOp_step (i := 8) rfl (fun KK hK => ?_)
    have HK := hid hK
    clear hK
    go_simp
    refine HK.out _ _ ?_
    clear HK
    clear s0 hHeldZ
    have c60 : w7.cell? ⟨S6, 0, none⟩ = some (.int .i64 xid) := cell_at H7.out.2.1 rfl
    have x7 := H7.out.2.2.1
    have HOf := hid H7.out.2.2.2.1
    by_cases her : er = 0
    case neg =>
      have he1 : (er == 0) = false := by simpa using her
      have hz0 : z = 0 := by
        rcases hz with ⟨e, _⟩ | ⟨_, _, _, e, _⟩
        · exact e
        · exact absurd e her
      subst hz0
      have HR := hid H7.out.2.2.2.2.2
      clear H7 hz her
      go_wp2_with fail
      refine HOf.out.mono ?_
      rintro _ _ ⟨rfl, rfl⟩
      clear HOf
      go_wp2
      go_ret
      exact ⟨rfl, HR.out.out⟩
    subst her
    have hof2 : (∃ k : Nat, k < mI ∧ ofP mI xid = k ∧ xid = 9 + k) ∨ (ofP mI xid = -1 ∧ ∀ y ∈ L, y.seq ≠ xid) := by
      unfold ofP
      by_cases e : 9 ≤ xid ∧ xid < 9 + (mI : Int)
      · exact .inl ⟨(xid - 9).toNat, by omega, by rw [if_pos e]; omega, by omega⟩
      · refine .inr ⟨if_neg e, fun y hy ey => ?_⟩
        have h1 := HOM.out.seq_lt hy
        have h2 := HOM.out.nxt
        rw [HT.out.2.2.1] at h2
        omega
    rcases hof2 with ⟨k, hkm', hk, hxk⟩ | ⟨hk, hno⟩
    case inr =>
      have hz0 : z = 0 := by
        rcases hz with ⟨e, _⟩ | ⟨_, _, _, _, _, y, hy, ey⟩
        · exact e
        · exact absurd ey (hno y hy)
      subst hz0
      have HR := hid H7.out.2.2.2.2.2
      rw [hk] at HOf
      clear H7 hz hno hk
      go_wp2_with fail
      refine HOf.out.mono ?_
      rintro _ _ ⟨rfl, rfl⟩
      clear HOf
      go_wp2
      go_ret
      exact ⟨rfl, HR.out.out⟩
    obtain ⟨g5, hg5⟩ : ∃ g, oI = some (⟨g, 0, none⟩ : Addr) := by
      first
        | exact ⟨_, rfl⟩
        | exact HG.out (by rw [HT.out.2.2.1]; omega)
    obtain ⟨i5, hi5⟩ : ∃ i, I[k]? = some i := ⟨_, List.getElem?_eq_getElem (by rw [HT.out.2.2.1]; exact hkm')⟩
    have y3 := H7.out.2.2.2.2.1 k i5 hi5 g5 hg5
    obtain ⟨ov, hov⟩ : ∃ ov, i5.over = ov := ⟨_, rfl⟩
    rw [hov] at y3
    have HZ : Hid ((ov = false ∧ (z == 0) = false) ∨ (ov = true ∧ z = 0)) := by
      have hn5 := HOM.out.num k i5 hi5
      cases ov
      · refine .inl ⟨rfl, ?_⟩
        rcases hz with ⟨_, e⟩ | ⟨e1, e2, _⟩
        · exfalso
          rcases HOM.out.all k i5 hi5 hov with ⟨x, hx, ex⟩ | ⟨d, hd, _⟩
          · rcases e with e | e | e | e
            · exact e rfl
            · exact e rfl
            · exact e rfl
            · exact e x hx (by omega)
          · cases hd
        · simp; omega
      · refine .inr ⟨rfl, ?_⟩
        rcases hz with ⟨e, _⟩ | ⟨_, _, _, _, _, y, hy, ey⟩
        · exact e
        · exfalso
          obtain ⟨k', i', b1, b2, b3, _⟩ := HOM.out.wt y hy
          obtain ⟨_, e2⟩ := HOM.out.same_at b1 hi5 (by have := b3.seq; omega)
          rw [e2, hov] at b2
          cases b2
    have hk0 : decide ((0 : Int) ≤ (k : Int)) = true := decide_eq_true (by omega)
    have hkm2 : (k : Int) < (mI : Int) := by omega
    have hkm3 : (0 : Int) ≤ (k : Int) := by omega
    have HR := hid H7.out.2.2.2.2.2
    rw [hk] at HOf
    rw [hg5] at x7
    clear H7 hz hk hxk hi5 hov hg5 hkm'
    go_wp2_with fail
    refine HOf.out.mono ?_
    rintro _ _ ⟨rfl, rfl⟩
    clear HOf
    rcases HZ.out with ⟨rfl, hz0⟩ | ⟨rfl, rfl⟩
    · have hz1 : (z != 0) = true := by rw [bne, hz0]; rfl
      clear HZ
      go_wp2
      go_ret
      exact ⟨rfl, HR.out.out⟩
    · clear HZ
      go_wp2
      go_ret
      exact ⟨rfl, HR.out.out⟩
end
end Go.Proofs.YtfcbjcebkahehaaGreatDoor.Cl
namespace Go.Proofs.YtfcbjcebkahehaaGreatDoor.Cl
open Go.RowKit
section
variable {K K' : Nat → Nat} {w w' : World} {B t p xb S S1 S2 : Nat} {c : Cf} {oa : Option Addr} {cap : Nat} {next now : Int} {L : List Wt} {D R : List Oc} {vw vd v : Value} {q : Mq} {vi : Value} {I : List Is} {n1 n2 : Int}
theorem LF.acts_any (h : LF K w B t p xb c oa cap next now L [] vw vd q vi I n1 n2) (kind N : Int) (s : ByteArray) (hN : -9223372036854775808 ≤ N ∧ N ≤ 9223372036854775807) (hI : I.length + 1 ≤ 50000000) (hn : now + 1 ≤ 100000000) (hs : s.size ≤ 281474976710656) :
    Calls Tryz.prog 15 #[ptr xb, .agg #[.int .i64 kind, .int .i64 N, .string s], .agg #[.int .i64 c.pb, .int .i64 c.pc, .int .i64 c.pt], .int .i64 c.win] w fun e w' => e = .returned (.bool true) ∧ Hid (∃ K' next' now' L' D' vw' vd' q' vi' I' n2', LF K' w' B t p xb c oa cap next' now' L' D' vw' vd' q' vi' I' n1 n2' ∧ (I'.length ≤ I.length + 1 ∧ now' ≤ now + 1 ∧ D'.length ≤ 50000000) ∧ Mv (fun u => t ≤ u) w w' K K') := by
  by_cases e0 : kind = 0
  · subst e0; exact h.acts_call N s hN hI hn hs
  by_cases e1 : kind = 1
  · subst e1; exact h.acts_due N s hN hI hn hs
  by_cases e3 : kind = 3
  · subst e3; exact h.acts_hear N s hN hI hn hs
  by_cases e4 : kind = 4
  · subst e4; exact h.acts_far N s hN hI hn hs
  by_cases e5 : kind = 5
  · subst e5; exact h.acts_raw N s hN hI hn hs
  · exact h.acts_tick N s hN hI hn hs kind (by simpa using e0) (by simpa using e1) (by simpa using e3) (by simpa using e4) (by simpa using e5)
end
end Go.Proofs.YtfcbjcebkahehaaGreatDoor.Cl
