/- ClientOnce: acts, replies from elsewhere. -/
import Derived.Test.YtfcbjcebkahehaaGreatDoorZbo
namespace Go.Proofs.YtfcbjcebkahehaaGreatDoor.Cl
open Go.RowKit
section
variable {K K' : Nat → Nat} {w w' : World} {B t p xb S S1 S2 : Nat} {c : Cf} {oa : Option Addr} {cap : Nat} {next now : Int} {L : List Wt} {D R : List Oc} {vw vd v : Value} {q : Mq} {vi : Value} {I : List Is} {n1 n2 : Int}
set_option maxRecDepth 8000 in
set_option maxHeartbeats 8000000 in
theorem LF.acts_far (h : LF K w B t p xb c oa cap next now L [] vw vd q vi I n1 n2) (N : Int) (s : ByteArray) (hN : -9223372036854775808 ≤ N ∧ N ≤ 9223372036854775807) (hI : I.length + 1 ≤ 50000000) (hn : now + 1 ≤ 100000000) (hs : s.size ≤ 281474976710656) :
    Calls Tryz.prog 15 #[ptr xb, .agg #[.int .i64 4, .int .i64 N, .string s], .agg #[.int .i64 c.pb, .int .i64 c.pc, .int .i64 c.pt], .int .i64 c.win] w fun e w' => e = .returned (.bool true) ∧ Hid (∃ K' next' now' L' D' vw' vd' q' vi' I' n2', LF K' w' B t p xb c oa cap next' now' L' D' vw' vd' q' vi' I' n1 n2' ∧ (I'.length ≤ I.length + 1 ∧ now' ≤ now + 1 ∧ D'.length ≤ 50000000) ∧ Mv (fun u => t ≤ u) w w' K K') := by
  obtain ⟨mI, hmI⟩ : ∃ m, I.length = m := ⟨_, rfl⟩
  obtain ⟨w2, hw2⟩ : ∃ y, (w.alloc (.cells #[.int .i64 4, .int .i64 N, .string s] 66)).alloc (.cells #[.int .i64 c.pb, .int .i64 c.pc, .int .i64 c.pt] 23) = y := ⟨_, rfl⟩
  obtain ⟨K2, kk, BE⟩ := h.beg 4 N s hN hmI hw2
  obtain ⟨S1, hS1⟩ : ∃ y, w.heap.size = y := ⟨_, rfl⟩
  obtain ⟨w1, hw1⟩ : ∃ y, w.alloc (.cells #[.int .i64 4, .int .i64 N, .string s] 66) = y := ⟨_, rfl⟩
  obtain ⟨S2, hS2⟩ : ∃ y, w1.heap.size = y := ⟨_, rfl⟩
  have hS12 : w.heap.size + 1 = S2 := by rw [← hS2, ← hw1]; simp
  rw [hw1] at hw2
  rw [hS12, hS1] at BE
  obtain ⟨oI, cI, evi, _, hgI⟩ := h.is.form
  rw [hmI] at evi
  subst evi
  have a1 : w2.cell? ⟨S1, 1, none⟩ = some (.int .i64 N) := cell_at BE.ac.a.at_ rfl
  have x1 : w2.cell? ⟨xb, 1, none⟩ = some (.slice oI mI cI) := BE.ac.lf.ce0.2.1
  have HPk := hid BE.pk
  have HOf := hid BE.of_
  have HPr := hid BE.pr
  have hkk := BE.kle
  have hmB : (mI : Int) ≤ 50000000 := by omega
  obtain ⟨mj, hmj⟩ : ∃ mj : Int, (mI : Int) + 1 = mj := ⟨_, rfl⟩
  have b1 : -9223372036854775808 ≤ (mI : Int) + 1 ∧ (mI : Int) + 1 ≤ 9223372036854775807 := by omega
  obtain ⟨nn, hnn⟩ : ∃ nn : Int, 9 + (kk : Int) = nn := ⟨_, rfl⟩
  have b2 : -9223372036854775808 ≤ 9 + (kk : Int) ∧ 9 + (kk : Int) ≤ 9223372036854775807 := by omega
  obtain ⟨kv, hkv⟩ : ∃ kv : Int, (if kk < mI then (kk : Int) else -1) = kv := ⟨_, rfl⟩
  have hkvi : Hid ((kk < mI ∧ kv = kk ∧ nn = 9 + kk) ∨ (kk = mI ∧ kv = -1 ∧ nn = 9 + kk)) := by
    rw [← hkv, ← hnn]
    by_cases e : kk < mI
    · exact .inl ⟨e, if_pos e, rfl⟩
    · exact .inr ⟨by omega, if_neg e, rfl⟩
  have hw9 : isW nn := by unfold isW; omega
  obtain ⟨txt, htxt⟩ : ∃ txt : ByteArray, (⟨(repR nn).lay.toArray⟩ : ByteArray) = txt := ⟨_, rfl⟩
  have HT := hid (And.intro htxt (And.intro hw9 (And.intro hmI (And.intro hI (And.intro hn (And.intro hs h))))))
  have HG := hid hgI
  rw [hmj] at HPk
  rw [hkv] at HOf
  have HPr : Hid (∀ w' K', AC K' w' B t p xb S1 S2 c oa cap next now L vw vd q (.slice oI mI cI) I n1 n2 4 N s → Calls Tryz.prog 49 #[.agg #[.int .i64 nn, .bool false, .int .i64 0, .string ⟨#[]⟩, .int .i64 0, .int .i64 0, .int .i64 0, .int .i64 0, .int .i64 0, .string ⟨#[119, 120, 121, 122]⟩]] w' fun e w'' => e = .returned (.tuple #[.string txt, .int .i64 0]) ∧ Hid (∃ K'', AC K'' w'' B t p xb S1 S2 c oa cap next now L vw vd q (.slice oI mI cI) I n1 n2 4 N s ∧ Mv (fun u => t ≤ u) w' w'' K' K'')) := fun w' K' a' => by
    have := HPr.out w' K' a'
    rw [hnn, htxt] at this
    exact this
  rw [hnn] at HOf
  have hb46 := fun nn w => bld46r nn w
  have hr1 : IntKind.i64.wrap ((mI : Int) + 1) = mj := by rw [IntWalk.i64_left, wrap_in b1, hmj]
  have hr1' : wrap64 ((mI : Int) + 1) = mj := by rw [wrap_in b1, hmj]
  have hr2 : IntKind.i64.wrap (9 + (kk : Int)) = nn := by rw [IntWalk.i64_left, wrap_in b2, hnn]
  have hr2' : wrap64 (9 + (kk : Int)) = nn := by rw [wrap_in b2, hnn]
  clear h BE hgI hN hmI hI hn hs hS12 hkk hmB hmj b1 b2 hnn hkv hw9 htxt
  go_enter Tryz.func15, Tryz.ntmps15
  go_wp2_with fail
  go_quiet ((go_at_call 10; exact Calls.quiet_of_same (HPk.out _)))
  go_wp2_with fail
  refine (HOf.out _).mono ?_
  rintro _ w3 ⟨rfl, A3, m3⟩
  clear HPk HOf a1 x1 hr1 hr1' hr2 hr2'
  have x1 : w3.cell? ⟨xb, 1, none⟩ = some (.slice oI mI cI) := A3.lf.ce0.2.1
  have H49 := hid (HPr.out w3 K2 A3)
  have HM3 := hid (And.intro A3 m3)
  clear HPr m3
  rcases hkvi.out with ⟨hlt, rfl, hnk⟩ | ⟨hke, rfl, hnk⟩
  · obtain ⟨gI, rfl⟩ := HG.out (by rw [HT.out.2.2.1]; omega)
    obtain ⟨i, hi⟩ : ∃ i, I[kk]? = some i := ⟨_, List.getElem?_eq_getElem (by rw [HT.out.2.2.1]; omega)⟩
    obtain ⟨ib, hib⟩ : ∃ ib, i.over = ib := ⟨_, rfl⟩
    have y3 : w3.cell? ⟨gI, kk * 4 + 3, none⟩ = some (.bool ib) := by rw [← hib]; exact (A3.lf.is.is4 HT.out.2.2.1 hi).2.2.2
    have hk0 : decide ((0 : Int) ≤ (kk : Int)) = true := decide_eq_true (by omega)
    have hkm : (kk : Int) < (mI : Int) := by omega
    have hkm0 : (0 : Int) ≤ (kk : Int) := by omega
    obtain ⟨wb, hwb⟩ : ∃ wb, (!ib) = wb := ⟨_, rfl⟩
    have HW : Hid (wb = true ↔ ∃ y ∈ L, y.seq = nn) := by
      have hnum := A3.lf.om.num kk i hi
      refine ⟨fun e => ?_, fun ⟨y, hy, ey⟩ => ?_⟩
      · have hf : i.over = false := by rw [hib]; rw [e] at hwb; simpa using hwb
        rcases A3.lf.om.all kk i hi hf with ⟨x, hx, ex⟩ | ⟨d, hd, _⟩
        · exact ⟨x, hx, by omega⟩
        · cases hd
      · obtain ⟨k', i', b1, b2, b3, b4⟩ := A3.lf.om.wt y hy
        obtain ⟨_, e2⟩ := A3.lf.om.same_at b1 hi (by have := b3.seq; omega)
        rw [← hwb, ← hib, ← e2, b2]; rfl
    clear A3 hi hib hlt hnk
    go_wp2_with fail
    refine H49.out.mono ?_
    rintro _ w4 ⟨rfl, H4⟩
    clear H49
    obtain ⟨K4, A4, m4⟩ := H4.out
    have am := HM3.out.2.trans m4
    have a0 : w4.cell? ⟨S1, 0, none⟩ = some (.int .i64 4) := cell_at A4.a.at_ rfl
    have z0 : w4.cell? ⟨xb, 0, none⟩ = some (ptr p) := A4.lf.ce0.1
    have hlen : (repR nn).lay.length ≤ 281474976710656 := by have := repR_len nn; omega
    have HH := A4.lf.far_any 65637 65537 (repR nn).lay hlen (.inr (by decide))
    rw [HT.out.1] at HH
    have HD := hid HH
    have HA := hid am
    have HL := hid hlen
    clear A4 m4 am H4 HM3 HH hlen
    go_wp2_with fail
    refine HD.out.mono ?_
    rintro _ w5 ⟨rfl, H5⟩
    clear HD
    obtain ⟨K5, F5, m5⟩ := H5.out
    have HH := F5.far_any 65636 65538 (repR nn).lay HL.out (.inl (by decide))
    rw [HT.out.1] at HH
    have HD := hid HH
    have z0' : w5.cell? ⟨xb, 0, none⟩ = some (ptr p) := F5.ce0.1
    have HA5 := hid (HA.out.trans m5)
    clear F5 m5 H5 HH HA z0
    go_wp2_with fail
    refine HD.out.mono ?_
    rintro _ w6 ⟨rfl, H6⟩
    clear HD
    go_wp2
    go_ret
    refine ⟨rfl, ?_⟩
    obtain ⟨K6, F6, m6⟩ := H6.out
    exact ⟨K6, _, _, L, [], vw, vd, q, _, I, n2, F6, ⟨by omega, by omega, by simp⟩, HA5.out.trans m6⟩
  · have HW : Hid (false = true ↔ ∃ y ∈ L, y.seq = nn) := by
      refine ⟨fun e => by (cases e), fun ⟨y, hy, ey⟩ => ?_⟩
      have h1 := (A3.lf.om.seq_lt hy).2
      have h2 := A3.lf.om.nxt
      rw [HT.out.2.2.1] at h2
      omega
    clear A3 hke hnk
    go_wp2_with fail
    refine H49.out.mono ?_
    rintro _ w4 ⟨rfl, H4⟩
    clear H49
    obtain ⟨K4, A4, m4⟩ := H4.out
    have am := HM3.out.2.trans m4
    have a0 : w4.cell? ⟨S1, 0, none⟩ = some (.int .i64 4) := cell_at A4.a.at_ rfl
    have z0 : w4.cell? ⟨xb, 0, none⟩ = some (ptr p) := A4.lf.ce0.1
    have hlen : (repR nn).lay.length ≤ 281474976710656 := by have := repR_len nn; omega
    have HH := A4.lf.far_any 65637 65537 (repR nn).lay hlen (.inr (by decide))
    rw [HT.out.1] at HH
    have HD := hid HH
    have HA := hid am
    have HL := hid hlen
    clear A4 m4 am H4 HM3 HH hlen
    go_wp2_with fail
    refine HD.out.mono ?_
    rintro _ w5 ⟨rfl, H5⟩
    clear HD
    obtain ⟨K5, F5, m5⟩ := H5.out
    have HH := F5.far_any 65636 65538 (repR nn).lay HL.out (.inl (by decide))
    rw [HT.out.1] at HH
    have HD := hid HH
    have z0' : w5.cell? ⟨xb, 0, none⟩ = some (ptr p) := F5.ce0.1
    have HA5 := hid (HA.out.trans m5)
    clear F5 m5 H5 HH HA z0
    go_wp2_with fail
    refine HD.out.mono ?_
    rintro _ w6 ⟨rfl, H6⟩
    clear HD
    go_wp2
    go_ret
    refine ⟨rfl, ?_⟩
    obtain ⟨K6, F6, m6⟩ := H6.out
    exact ⟨K6, _, _, L, [], vw, vd, q, _, I, n2, F6, ⟨by omega, by omega, by simp⟩, HA5.out.trans m6⟩
end
end Go.Proofs.YtfcbjcebkahehaaGreatDoor.Cl
