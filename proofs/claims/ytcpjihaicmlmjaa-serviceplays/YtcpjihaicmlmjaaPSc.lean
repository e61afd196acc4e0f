/- Services: procedures that rise. -/
import Derived.Test.YtcpjihaicmlmjaaPSb
namespace Go.Proofs.Ytcpjihaicmlmjaa
open Go.RowKit
/-- numbers that lie in memory -/
def GsAt (w : World) (B : Nat) (oa : Option Addr) (gs : List Int) : Prop := 0 < gs.length → ∃ q off, oa = some ⟨q, off, none⟩ ∧ q < B ∧ ∀ i, i < gs.length → w.cell? ⟨q, off + i, none⟩ = some (.int .i64 (gs.getD i 0))
theorem cell_of_block {w w' : World} {q k : Nat} (h : w'.heap[q]? = w.heap[q]?) : w'.cell? ⟨q, k, none⟩ = w.cell? ⟨q, k, none⟩ := World.cell?_of_block (a := ⟨q, k, none⟩) h
theorem GsAt.below {w w' : World} {B : Nat} {oa : Option Addr} {gs : List Int} (h : GsAt w B oa gs) (hB : Below B w w') : GsAt w' B oa gs := fun h0 => by
  obtain ⟨q, off, e1, e2, e3⟩ := h h0
  exact ⟨q, off, e1, e2, fun i hi => (cell_of_block (hB.block q e2)).trans (e3 i hi)⟩
theorem GsAt.mono {w : World} {B B' : Nat} {oa : Option Addr} {gs : List Int} (h : GsAt w B oa gs) (hB : B ≤ B') : GsAt w B' oa gs := fun h0 => by
  obtain ⟨q, off, e1, e2, e3⟩ := h h0
  exact ⟨q, off, e1, Nat.lt_of_lt_of_le e2 hB, e3⟩
def riseP (last : Int) : List Int → Bool
  | [] => true
  | x :: l => (decide (last < x) && decide (x ≤ 4294967295)) && riseP x l
theorem drop_at (gs : List Int) (j : Nat) (h : j < gs.length) : gs.drop j = gs.getD j 0 :: gs.drop (j + 1) := by
  rw [List.drop_eq_getElem_cons h, List.getD_eq_getElem?_getD, List.getElem?_eq_getElem h]; rfl
theorem riseP_at {gs : List Int} {j : Nat} {la : Int} (h : j < gs.length) : riseP la (gs.drop j) = ((decide (la < gs.getD j 0) && decide (gs.getD j 0 ≤ 4294967295)) && riseP (gs.getD j 0) (gs.drop (j + 1))) := by rw [drop_at gs j h]; rfl
theorem wrapJ {j n : Nat} (h : j < n) (hn : n ≤ 100000000000000) : wrap64 ((j : Int) + 1) = (j : Int) + 1 := by unfold wrap64; omega
set_option maxRecDepth 8000 in
theorem rise_any (oa : Option Addr) (cap : Nat) (gs : List Int) (w : World) (hg : GsAt w w.heap.size oa gs) (hl : gs.length ≤ 100000000000000) :
    Calls Try.prog 38 #[.slice oa gs.length cap] w fun e w' => e = .returned (.bool (riseP 0 gs)) ∧ Below w.heap.size w w' := by
  have HG := hid hg
  obtain ⟨n, hn⟩ : ∃ n, gs.length = n := ⟨_, rfl⟩
  have HN := hid hn
  obtain ⟨r, hr⟩ : ∃ r, riseP 0 gs = r := ⟨_, rfl⟩
  have HR := hid hr
  have HW := hid (fun n w => word_any n w)
  rw [hn, hr]
  rw [hn] at hl
  have HL := hid hl
  clear hg hn hr hl
  go_enter Try.func38, Try.ntmps38
  go_wp2_with fail
  go_loopw [3, 8] (fun la ix wr => ∃ (j : Nat) (a : Int), la = .int .i64 a ∧ ix = .int .i64 j ∧ j ≤ n ∧ Hid (riseP a (gs.drop j) = r) ∧ Hid (0 ≤ a) ∧ Hid (Below w.heap.size w wr)) (fun _ ix _ => n - (intOf ix).toNat)
  case atStart => exact ⟨0, 0, rfl, rfl, by omega, (by simpa using HR.out : riseP 0 (gs.drop 0) = r), (by omega : (0 : Int) ≤ 0), (Below.refl _ _ : Below w.heap.size w w)⟩
  case round =>
    obtain ⟨j, a, rfl, rfl, hj, HE, HA, HB⟩ := hrel
    by_cases hlt : j < n
    · obtain ⟨q, off, ho, hq, hc⟩ := HG.out (by have := HN.out; omega)
      have d1 : wr.cell? ⟨q, off + j, none⟩ = some (.int .i64 (gs.getD j 0)) := (cell_of_block (HB.out.block q hq)).trans (hc j (by have := HN.out; omega))
      have HE2 := hid ((riseP_at (la := a) (by rw [HN.out]; exact hlt)).symm.trans HE.out)
      subst ho
      obtain ⟨x, hx⟩ : ∃ x, gs.getD j 0 = x := ⟨_, rfl⟩
      rw [hx] at d1 HE2
      have i0 : (0 : Int) ≤ (j : Int) := by omega
      have i1 : (j : Int) < (n : Int) := by omega
      have hw := wrapJ hlt HL.out
      clear hc hx
      cases hxa : decide (x ≤ a)
      · have hax : decide (a < x) = true := by rw [decide_eq_true_eq]; rw [decide_eq_false_iff_not] at hxa; omega
        have hisw : isW x = decide (x ≤ 4294967295) := by
          unfold isW
          rw [decide_eq_true_eq] at hax
          have := HA.out
          rw [decide_eq_true (by omega)]; rfl
        have HWx := hid (fun w => by have := word_any x w; rw [hisw] at this; exact this)
        rw [hax] at HE2
        have HX := hid hax
        clear hax hisw
        cases hx2 : decide (x ≤ 4294967295)
        · rw [hx2] at HE2 HWx
          have hr : r = false := HE2.out.symm
          subst hr
          go_wp2_with fail
          refine (HWx.out _).mono ?_
          rintro _ w' ⟨rfl, hw'⟩
          have HB' : Hid (Below w.heap.size w w') := by rw [hw']; exact HB.out
          clear hw'
          go_wp2
          go_ret
          exact ⟨rfl, HB'.out⟩
        · rw [hx2] at HE2 HWx
          have HE3 : Hid (riseP x (gs.drop (j + 1)) = r) := hid (by simpa using HE2.out)
          go_wp2_with fail
          refine (HWx.out _).mono ?_
          rintro _ w' ⟨rfl, hw'⟩
          have HB' : Hid (Below w.heap.size w w') := by rw [hw']; exact HB.out
          clear hw'
          go_wp2
          go_roundw
          case rel => exact ⟨j + 1, x, rfl, by go_num, hlt, HE3, by have := HX.out; rw [decide_eq_true_eq] at this; have := HA.out; show 0 ≤ x; omega, HB'⟩
          case measure => exact meas (by go_num) i1
      · have hr : r = false := by
          rw [← HE2.out]
          rw [decide_eq_true_eq] at hxa
          rw [decide_eq_false (by omega)]; rfl
        subst hr
        go_wp2
        go_ret
        exact ⟨rfl, HB.out⟩
    · obtain rfl : j = n := by omega
      have hr : r = true := by
        rw [← HE.out, List.drop_eq_nil_of_le (by have := HN.out; omega)]; rfl
      subst hr
      go_wp2
      go_ret
      exact ⟨rfl, HB.out⟩
end Go.Proofs.Ytcpjihaicmlmjaa
