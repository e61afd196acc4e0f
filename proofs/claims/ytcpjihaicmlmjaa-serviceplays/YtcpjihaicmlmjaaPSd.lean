/- Services: the least and the greatest. -/
import Derived.Test.YtcpjihaicmlmjaaPSc
namespace Go.Proofs.Ytcpjihaicmlmjaa
open Go.RowKit

def minL : List Int → Int
  | [] => 0
  | x :: l => l.foldl min x
theorem min_step (gs : List Int) (j : Nat) (a : Int) (h : j < gs.length) : (gs.drop j).foldl min a = (gs.drop (j + 1)).foldl min (min a (gs.getD j 0)) := by rw [drop_at gs j h]; rfl
set_option maxRecDepth 8000 in
theorem min_any (oa : Option Addr) (cap : Nat) (gs : List Int) (w : World) (hg : GsAt w w.heap.size oa gs) (h0 : 0 < gs.length) (hl : gs.length ≤ 100000000000000) :
    Calls Try.prog 19 #[.slice oa gs.length cap] w fun e w' => e = .returned (.int .i64 (minL gs)) ∧ Below w.heap.size w w' := by
  have HG := hid hg
  obtain ⟨n, hn⟩ : ∃ n, gs.length = n := ⟨_, rfl⟩
  have HN := hid hn
  obtain ⟨r, hr⟩ : ∃ r, minL gs = r := ⟨_, rfl⟩
  have HR : Hid ((gs.drop 1).foldl min (gs.getD 0 0) = r) := by
    show _ = _
    rw [← hr]
    cases gs with
    | nil => simp at h0
    | cons x l => simp [minL]
  rw [hn, hr]
  rw [hn] at hl h0
  have HL := hid hl
  obtain ⟨q, off, ho, hq, hc⟩ := HG.out (by have := HN.out; omega)
  have c0 := hc 0 (by have := HN.out; omega)
  rw [Nat.add_zero] at c0
  obtain ⟨x0, hx0⟩ : ∃ x, gs.getD 0 0 = x := ⟨_, rfl⟩
  rw [hx0] at c0 HR
  have i0 : (0 : Int) < (n : Int) := by omega
  have i00 : decide ((n : Int) < 1) = false := decide_eq_false (by omega)
  have HC := hid (And.intro hq hc)
  subst ho
  clear hg hn hr hl hq hc hx0
  go_enter Try.func19, Try.ntmps19
  go_wp2_with fail
  go_loopw [3, 4] (fun la ix wr => ∃ (j : Nat) (a : Int), la = .int .i64 a ∧ ix = .int .i64 j ∧ j ≤ n ∧ Hid ((gs.drop j).foldl min a = r) ∧ Hid (Below w.heap.size w wr)) (fun _ ix _ => n - (intOf ix).toNat)
  case atStart => exact ⟨1, x0, rfl, rfl, by omega, HR, (Below.refl _ _ : Below w.heap.size w w)⟩
  case round =>
    obtain ⟨j, a, rfl, rfl, hj, HE, HB⟩ := hrel
    by_cases hlt : j < n
    · have d1 : wr.cell? ⟨q, off + j, none⟩ = some (.int .i64 (gs.getD j 0)) := (cell_of_block (HB.out.block q HC.out.1)).trans (HC.out.2 j (by have := HN.out; omega))
      have HE2 := hid ((min_step gs j a (by rw [HN.out]; exact hlt)).symm.trans HE.out)
      obtain ⟨x, hx⟩ : ∃ x, gs.getD j 0 = x := ⟨_, rfl⟩
      rw [hx] at d1 HE2
      have j0 : (0 : Int) ≤ (j : Int) := by omega
      have j1 : (j : Int) < (n : Int) := by omega
      have hw := wrapJ hlt HL.out
      clear hx
      go_wp2
      go_roundw
      case rel => exact ⟨j + 1, min a x, by go_num, by go_num, hlt, HE2, HB⟩
      case measure => exact meas (by go_num) j1
    · obtain rfl : j = n := by omega
      have hr : a = r := by
        rw [← HE.out, List.drop_eq_nil_of_le (by have := HN.out; omega)]; rfl
      subst hr
      go_wp2
      go_ret
      exact ⟨rfl, HB.out⟩

def maxL : List Int → Int
  | [] => 0
  | x :: l => l.foldl max x
theorem max_step (gs : List Int) (j : Nat) (a : Int) (h : j < gs.length) : (gs.drop j).foldl max a = (gs.drop (j + 1)).foldl max (max a (gs.getD j 0)) := by rw [drop_at gs j h]; rfl
set_option maxRecDepth 8000 in
theorem max_any (oa : Option Addr) (cap : Nat) (gs : List Int) (w : World) (hg : GsAt w w.heap.size oa gs) (h0 : 0 < gs.length) (hl : gs.length ≤ 100000000000000) :
    Calls Try.prog 20 #[.slice oa gs.length cap] w fun e w' => e = .returned (.int .i64 (maxL gs)) ∧ Below w.heap.size w w' := by
  have HG := hid hg
  obtain ⟨n, hn⟩ : ∃ n, gs.length = n := ⟨_, rfl⟩
  have HN := hid hn
  obtain ⟨r, hr⟩ : ∃ r, maxL gs = r := ⟨_, rfl⟩
  have HR : Hid ((gs.drop 1).foldl max (gs.getD 0 0) = r) := by
    show _ = _
    rw [← hr]
    cases gs with
    | nil => simp at h0
    | cons x l => simp [maxL]
  rw [hn, hr]
  rw [hn] at hl h0
  have HL := hid hl
  obtain ⟨q, off, ho, hq, hc⟩ := HG.out (by have := HN.out; omega)
  have c0 := hc 0 (by have := HN.out; omega)
  rw [Nat.add_zero] at c0
  obtain ⟨x0, hx0⟩ : ∃ x, gs.getD 0 0 = x := ⟨_, rfl⟩
  rw [hx0] at c0 HR
  have i0 : (0 : Int) < (n : Int) := by omega
  have i00 : decide ((n : Int) < 1) = false := decide_eq_false (by omega)
  have HC := hid (And.intro hq hc)
  subst ho
  clear hg hn hr hl hq hc hx0
  go_enter Try.func20, Try.ntmps20
  go_wp2_with fail
  go_loopw [3, 4] (fun la ix wr => ∃ (j : Nat) (a : Int), la = .int .i64 a ∧ ix = .int .i64 j ∧ j ≤ n ∧ Hid ((gs.drop j).foldl max a = r) ∧ Hid (Below w.heap.size w wr)) (fun _ ix _ => n - (intOf ix).toNat)
  case atStart => exact ⟨1, x0, rfl, rfl, by omega, HR, (Below.refl _ _ : Below w.heap.size w w)⟩
  case round =>
    obtain ⟨j, a, rfl, rfl, hj, HE, HB⟩ := hrel
    by_cases hlt : j < n
    · have d1 : wr.cell? ⟨q, off + j, none⟩ = some (.int .i64 (gs.getD j 0)) := (cell_of_block (HB.out.block q HC.out.1)).trans (HC.out.2 j (by have := HN.out; omega))
      have HE2 := hid ((max_step gs j a (by rw [HN.out]; exact hlt)).symm.trans HE.out)
      obtain ⟨x, hx⟩ : ∃ x, gs.getD j 0 = x := ⟨_, rfl⟩
      rw [hx] at d1 HE2
      have j0 : (0 : Int) ≤ (j : Int) := by omega
      have j1 : (j : Int) < (n : Int) := by omega
      have hw := wrapJ hlt HL.out
      clear hx
      go_wp2
      go_roundw
      case rel => exact ⟨j + 1, max a x, by go_num, by go_num, hlt, HE2, HB⟩
      case measure => exact meas (by go_num) j1
    · obtain rfl : j = n := by omega
      have hr : a = r := by
        rw [← HE.out, List.drop_eq_nil_of_le (by have := HN.out; omega)]; rfl
      subst hr
      go_wp2
      go_ret
      exact ⟨rfl, HB.out⟩
end Go.Proofs.Ytcpjihaicmlmjaa
