/- Services: the document's own: has, May. -/
import Derived.Test.YtcpjihaicmlmjaaPSg
namespace Go.Proofs.Ytcpjihaicmlmjaa
open Go.RowKit
theorem has_at (gs : List Int) (p : Int) (j : Nat) (h : j < gs.length) (hp : gs.getD j 0 = p) : hasP gs p = true := by
  unfold hasP
  have : p ∈ gs := (mem_at gs p).2 ⟨j, h, hp⟩
  simp [this]
theorem has_none (gs : List Int) (p : Int) (hn : ∀ i, i < gs.length → ¬ gs.getD i 0 = p) : hasP gs p = (p == 0) := by
  unfold hasP
  have : ¬ p ∈ gs := fun h => by obtain ⟨i, hi, he⟩ := (mem_at gs p).1 h; exact hn i hi he
  simp [this]
set_option maxRecDepth 8000 in
theorem rhas_any (s : Sv) (p : Int) (w : World) (hg : GsAt w w.heap.size s.oa s.procs) (hl : s.procs.length ≤ 100000000000000) :
    Calls Try.prog 22 #[.agg (rvA s), .int .i64 p] w fun e w' => e = .returned (.bool (hasP s.procs p)) ∧ Below w.heap.size w w' := by
  obtain ⟨w0, hw0⟩ : ∃ w0, w.alloc (.cells (rvA s) 55) = w0 := ⟨_, rfl⟩
  obtain ⟨S0, hS0⟩ : ∃ S0, w.heap.size = S0 := ⟨_, rfl⟩
  have B0 : Below w.heap.size w w0 := by rw [← hw0]; exact (Below.refl _ _).alloc (Nat.le_refl _) _
  have k0 : w0.heap[S0]? = some (.cells (rvA s) 55) := by rw [← hw0, ← hS0]; exact (MapKept.heap_alloc w _).1
  have c2 : w0.cell? ⟨S0, 2, none⟩ = some (.slice s.oa s.procs.length s.cap) := by unfold World.cell?; rw [k0]; rfl
  have HG := hid ((hg.below B0).mono B0.size)
  have HB0 := hid B0
  obtain ⟨gs, hgs⟩ : ∃ gs, s.procs = gs := ⟨_, rfl⟩
  obtain ⟨oa, hoa⟩ : ∃ oa, s.oa = oa := ⟨_, rfl⟩
  rw [hgs] at HG c2 hl ⊢
  rw [hoa] at HG c2
  have hA : (rvA s) = #[.int .i64 s.prog, .int .i64 s.vers, .slice oa gs.length s.cap] := by rw [← hgs, ← hoa]
  rw [hA] at hw0 ⊢
  obtain ⟨n, hn⟩ : ∃ n, gs.length = n := ⟨_, rfl⟩
  have HN := hid hn
  obtain ⟨r, hr⟩ : ∃ r, hasP gs p = r := ⟨_, rfl⟩
  have HR := hid hr
  rw [hn] at hl c2 hw0 ⊢
  rw [hr]
  have HL := hid hl
  clear hg hn hr hl B0 k0 hgs hoa hA
  go_enter Try.func22, Try.ntmps22
  go_wp2_with fail
  go_loopw [5] (fun ix wr => ∃ (j : Nat), ix = .int .i64 j ∧ j ≤ n ∧ wr = w0 ∧ Hid (∀ i, i < j → ¬ gs.getD i 0 = p)) (fun ix _ => n - (intOf ix).toNat)
  case atStart => exact ⟨0, rfl, by omega, rfl, (fun i hi => by omega : ∀ i, i < 0 → ¬ gs.getD i 0 = p)⟩
  case round =>
    obtain ⟨j, rfl, hj, rfl, HE⟩ := hrel
    by_cases hlt : j < n
    · obtain ⟨q, off, ho, hq, hc⟩ := HG.out (by have := HN.out; omega)
      have d1 := hc j (by have := HN.out; omega)
      subst ho
      obtain ⟨x, hx⟩ : ∃ x, gs.getD j 0 = x := ⟨_, rfl⟩
      rw [hx] at d1
      have HX := hid hx
      have j0 : (0 : Int) ≤ (j : Int) := by omega
      have j1 : (j : Int) < (n : Int) := by omega
      have hw := wrapJ hlt HL.out
      clear hc hx
      cases hxp : (x == p)
      · go_wp2
        go_roundw
        case rel => exact ⟨j + 1, by go_num, hlt, (by first | rfl | trivial), (fun i hi => by
          rcases Nat.lt_or_ge i j with h | h
          · exact HE.out i h
          · obtain rfl : i = j := by omega
            rw [HX.out]; simpa using hxp : ∀ i, i < j + 1 → ¬ gs.getD i 0 = p)⟩
        case measure => exact meas (by go_num) j1
      · have hr : r = true := by
          rw [← HR.out]
          exact has_at gs p j (by rw [HN.out]; exact hlt) (by rw [HX.out]; simpa using hxp)
        subst hr
        go_wp2
        go_ret
        exact ⟨rfl, (by first | exact HB0.out | (rw [← hS0]; exact HB0.out))⟩
    · obtain rfl : j = n := by omega
      have hr : r = (p == 0) := by rw [← HR.out]; exact has_none gs p (by rw [HN.out]; exact HE.out)
      subst hr
      go_wp2
      go_ret
      exact ⟨by simp, (by first | exact HB0.out | (rw [← hS0]; exact HB0.out))⟩
def rmayP (s : Sv) : Bool := isW s.prog && (isW s.vers && riseP 0 s.procs)
set_option maxRecDepth 8000 in
theorem may_any (s : Sv) (w : World) (hg : GsAt w w.heap.size s.oa s.procs) (hl : s.procs.length ≤ 100000000000000) :
    Calls Try.prog 31 #[.agg (rvA s)] w fun e w' => e = .returned (.bool (rmayP s)) ∧ Below w.heap.size w w' := by
  obtain ⟨w0, hw0⟩ : ∃ w0, w.alloc (.cells (rvA s) 55) = w0 := ⟨_, rfl⟩
  obtain ⟨S0, hS0⟩ : ∃ S0, w.heap.size = S0 := ⟨_, rfl⟩
  have B0 : Below w.heap.size w w0 := by rw [← hw0]; exact (Below.refl _ _).alloc (Nat.le_refl _) _
  have k0 : w0.heap[S0]? = some (.cells (rvA s) 55) := by rw [← hw0, ← hS0]; exact (MapKept.heap_alloc w _).1
  have c0 : w0.cell? ⟨S0, 0, none⟩ = some (.int .i64 s.prog) := by unfold World.cell?; rw [k0]; rfl
  have c1 : w0.cell? ⟨S0, 1, none⟩ = some (.int .i64 s.vers) := by unfold World.cell?; rw [k0]; rfl
  have c2 : w0.cell? ⟨S0, 2, none⟩ = some (.slice s.oa s.procs.length s.cap) := by unfold World.cell?; rw [k0]; rfl
  have HG := hid ((hg.below B0).mono B0.size)
  have HB0 := hid B0
  obtain ⟨pr, vr, gs, oa, cap⟩ := s
  unfold rmayP isW
  simp only [] at hl c0 c1 c2 hw0 HG ⊢
  obtain ⟨n, hn⟩ : ∃ n, gs.length = n := ⟨_, rfl⟩
  have HN := hid hn
  obtain ⟨r, hr⟩ : ∃ r, riseP 0 gs = r := ⟨_, rfl⟩
  have HR := hid hr
  have hA : rvA ⟨pr, vr, gs, oa, cap⟩ = #[.int .i64 pr, .int .i64 vr, .slice oa n cap] := by rw [← hn]
  rw [hA] at hw0 ⊢
  rw [hn] at hl c2
  rw [hr]
  have HL := hid hl
  clear hg hn hr hl B0 k0 hA
  by_cases a1 : pr < 0
  · have e1 : decide (0 ≤ pr) = false := decide_eq_false (by omega)
    rw [e1]
    go_enter Try.func31, Try.ntmps31
    go_wp2
    go_ret
    exact ⟨by simp, (by first | exact HB0.out | (rw [← hS0]; exact HB0.out))⟩
  by_cases a2 : 4294967295 < pr
  · have e1 : decide (pr ≤ 4294967295) = false := decide_eq_false (by omega)
    rw [e1]
    go_enter Try.func31, Try.ntmps31
    go_wp2
    go_ret
    exact ⟨by simp, (by first | exact HB0.out | (rw [← hS0]; exact HB0.out))⟩
  by_cases a3 : vr < 0
  · have e1 : decide (0 ≤ vr) = false := decide_eq_false (by omega)
    rw [e1]
    go_enter Try.func31, Try.ntmps31
    go_wp2
    go_ret
    exact ⟨by simp, (by first | exact HB0.out | (rw [← hS0]; exact HB0.out))⟩
  by_cases a4 : 4294967295 < vr
  · have e1 : decide (vr ≤ 4294967295) = false := decide_eq_false (by omega)
    rw [e1]
    go_enter Try.func31, Try.ntmps31
    go_wp2
    go_ret
    exact ⟨by simp, (by first | exact HB0.out | (rw [← hS0]; exact HB0.out))⟩
  rw [decide_eq_true (show 0 ≤ pr by omega), decide_eq_true (show 0 ≤ vr by omega), decide_eq_true (show pr ≤ 4294967295 by omega), decide_eq_true (show vr ≤ 4294967295 by omega)]
  simp only [Bool.true_and]
  go_enter Try.func31, Try.ntmps31
  go_wp2_with fail
  go_loopw [3, 4] (fun la ix wr => ∃ (j : Nat) (a : Int), la = .int .i64 a ∧ ix = .int .i64 j ∧ j ≤ n ∧ wr = w0 ∧ Hid (riseP a (gs.drop j) = r)) (fun _ ix _ => n - (intOf ix).toNat)
  case atStart => exact ⟨0, 0, rfl, rfl, by omega, rfl, (by simpa using HR.out : riseP 0 (gs.drop 0) = r)⟩
  case round =>
    obtain ⟨j, a, rfl, rfl, hj, rfl, HE⟩ := hrel
    by_cases hlt : j < n
    · obtain ⟨q, off, ho, hq, hc⟩ := HG.out (by have := HN.out; omega)
      have d1 := hc j (by have := HN.out; omega)
      have HE2 := hid ((riseP_at (la := a) (by rw [HN.out]; exact hlt)).symm.trans HE.out)
      subst ho
      obtain ⟨x, hx⟩ : ∃ x, gs.getD j 0 = x := ⟨_, rfl⟩
      rw [hx] at d1 HE2
      have j0 : (0 : Int) ≤ (j : Int) := by omega
      have j1 : (j : Int) < (n : Int) := by omega
      have hw := wrapJ hlt HL.out
      clear hc hx
      by_cases b1 : x ≤ a
      · have hr : r = false := by
          rw [← HE2.out, decide_eq_false (show ¬ a < x by omega)]; rfl
        subst hr
        go_wp2
        go_ret
        exact ⟨rfl, (by first | exact HB0.out | (rw [← hS0]; exact HB0.out))⟩
      by_cases b2 : 4294967295 < x
      · have hr : r = false := by
          rw [← HE2.out, decide_eq_false (show ¬ x ≤ 4294967295 by omega)]; simp
        subst hr
        go_wp2
        go_ret
        exact ⟨rfl, (by first | exact HB0.out | (rw [← hS0]; exact HB0.out))⟩
      have HE3 : Hid (riseP x (gs.drop (j + 1)) = r) := by
        have := HE2.out
        rw [decide_eq_true (show a < x by omega), decide_eq_true (show x ≤ 4294967295 by omega)] at this
        exact hid (by simpa using this)
      go_wp2
      go_roundw
      case rel => exact ⟨j + 1, x, rfl, by go_num, hlt, (by first | rfl | trivial), HE3⟩
      case measure => exact meas (by go_num) j1
    · obtain rfl : j = n := by omega
      have hr : r = true := by
        rw [← HE.out, List.drop_eq_nil_of_le (by have := HN.out; omega)]; rfl
      subst hr
      go_wp2
      go_ret
      exact ⟨rfl, (by first | exact HB0.out | (rw [← hS0]; exact HB0.out))⟩
end Go.Proofs.Ytcpjihaicmlmjaa
