/- whole: are numbers lent as they were? Their owner writes them over. -/
import Derived.Test.YtihcdahmfdijoaaDoorWf
namespace Go.Proofs.YtihcdahmfdijoaaDoor
open Go.RowKit
theorem lent_get (gs : List Int) (i : Nat) (h : i < gs.length) : (intsV gs ++ List.replicate 4 (.int .i64 (-77)))[i]? = some (.int .i64 (gs.getD i 0)) := by
  rw [List.getElem?_append_left (by rw [intsV_len]; exact h)]
  exact intsV_get gs i h
theorem lent_tail (gs : List Int) (j : Nat) (h : j < 4) : (intsV gs ++ List.replicate 4 (.int .i64 (-77)))[gs.length + j]? = some (.int .i64 (-77)) := by
  rw [List.getElem?_append_right (by rw [intsV_len]; omega), intsV_len, Nat.add_sub_cancel_left, List.getElem?_replicate]
  simp [h]
theorem lent_gs {w : World} {g : Nat} {gs : List Int} {t : TypeId} (h : Bk w g (intsV gs ++ List.replicate 4 (.int .i64 (-77))) t) : GsAt w w.heap.size (some ⟨g, 0, none⟩) gs := fun _ => ⟨g, 0, rfl, h.lt, fun i hi => by
  rw [Nat.zero_add]
  exact h.cell i (lent_get gs i hi)⟩
/-- A row of numbers. -/
def Nums (n : Nat) (xs : List Value) : Prop := xs.length = n ∧ ∀ i, i < n → ∃ z, xs[i]? = some (.int .i64 z)
theorem Nums.set {n : Nat} {xs : List Value} (h : Nums n xs) (i : Nat) (z : Int) : Nums n (xs.set i (.int .i64 z)) := by
  refine ⟨by rw [List.length_set]; exact h.1, fun j hj => ?_⟩
  by_cases e : i = j
  · subst e
    exact ⟨z, by rw [List.getElem?_set_self (by rw [h.1]; exact hj)]⟩
  · rw [List.getElem?_set_ne e]
    exact h.2 j hj
theorem lent_nums (gs : List Int) : Nums (gs.length + 4) (intsV gs ++ List.replicate 4 (.int .i64 (-77))) := by
  refine ⟨by simp [intsV_len], fun i hi => ?_⟩
  by_cases h : i < gs.length
  · exact ⟨_, lent_get gs i h⟩
  · have := lent_tail gs (i - gs.length) (by omega)
    rw [show gs.length + (i - gs.length) = i by omega] at this
    exact ⟨_, this⟩
set_option maxRecDepth 4000 in
theorem whole_any (g : Nat) (oa : Option Addr) (ca : Nat) (gs : List Int) (w : World) (hk : Bk w g (intsV gs ++ List.replicate 4 (.int .i64 (-77))) 3) (hg : GsAt w w.heap.size oa gs) (hl : gs.length ≤ 2147483647) :
    Calls Tryd.prog 13 #[.slice (some ⟨g, 0, none⟩) (gs.length + 4) (gs.length + 4), .slice oa gs.length ca] w fun e w' => e = .returned (.bool true) ∧ Sole g w w' := by
  have HI : Hid (Calls Tryd.prog 31 #[.slice (some ⟨g, 0, none⟩) gs.length (gs.length + 4), .slice oa gs.length ca] w fun e w' => e = .returned (.bool true) ∧ Below w.heap.size w w') := by
    have := ints_any (some ⟨g, 0, none⟩) oa (gs.length + 4) ca gs gs w (lent_gs hk) hg (by omega)
    rwa [show (gs == gs) = true by simp] at this
  have HC : Hid (∀ wr, Below w.heap.size w wr → Bk wr g (intsV gs ++ List.replicate 4 (.int .i64 (-77))) 3) := fun wr h => hk.below h hk.lt
  have HT := hid (lent_tail gs)
  have HM := hid (lent_nums gs)
  clear hk hg
  obtain ⟨n, hn⟩ : ∃ n, gs.length = n := ⟨_, rfl⟩
  rw [hn] at hl HI HT HM ⊢
  have hl2 : (n : Int) ≤ 2147483647 := by omega
  have s0 : (0 : Int) ≤ (n : Int) := by omega
  have s1 : (n : Int) ≤ ((n + 4 : Nat) : Int) := by omega
  clear hn hl
  go_enter Tryd.func13, Tryd.ntmps13
  go_wp2_with fail
  refine HI.out.mono ?_
  rintro e w3 ⟨rfl, hB3⟩
  have HB3 := hid hB3
  clear HI hB3
  go_wp2_with fail
  go_loopw [5, 6] (fun is ix wr => ∃ j : Nat, is = .bool true ∧ ix = .int .i64 ((n + j : Nat) : Int) ∧ j ≤ 4 ∧ Hid (Below w.heap.size w wr)) (fun _ ix _ => n + 4 - (intOf ix).toNat)
  case atStart => exact ⟨0, rfl, by simp, by omega, HB3⟩
  case round =>
    obtain ⟨j, rfl, rfl, hj, HB⟩ := hrel
    by_cases hlt : j < 4
    · have c := (HC.out wr HB.out).cell (n + j) (HT.out j hlt)
      have i0 : (0 : Int) ≤ ((n + j : Nat) : Int) := by omega
      have i1 : ((n + j : Nat) : Int) < ((n + 4 : Nat) : Int) := by omega
      have i2 : n + j < n + 4 := by omega
      go_wp2
      go_roundw
      case rel => exact ⟨j + 1, rfl, by go_num, by omega, HB⟩
      case measure => simp [intOf]; omega
    · obtain rfl : j = 4 := by omega
      have HK4 : Hid (∃ xs, Bk wr g xs 3 ∧ Nums (n + 4) xs) := ⟨_, HC.out wr HB.out, HM.out⟩
      have HS4 : Hid (Sole g w wr) := Sole.of_below HB.out
      clear HC HT HM HB
      go_wp2_with fail
      go_loopw [7] (fun ix wr => ∃ j : Nat, ix = .int .i64 (j : Int) ∧ j ≤ n + 4 ∧ Hid (∃ xs, Bk wr g xs 3 ∧ Nums (n + 4) xs) ∧ Hid (Sole g w wr)) (fun ix _ => n + 4 - (intOf ix).toNat)
      case atStart => exact ⟨0, rfl, by omega, HK4, HS4⟩
      case round =>
        obtain ⟨j, rfl, hj, HK, HS⟩ := hrel
        by_cases hlt : j < n + 4
        · obtain ⟨xs, hk, hx⟩ := HK.out
          obtain ⟨z, hz⟩ := hx.2 j hlt
          have c := hk.cell j hz
          have f := hk.frozen j
          have HK5 : Hid (∃ ys, Bk (wr.setCell ⟨g, j, none⟩ (.int .i64 (-78))) g ys 3 ∧ Nums (n + 4) ys) := ⟨_, hk.set j _, hx.set j _⟩
          have HS5 : Hid (Sole g w (wr.setCell ⟨g, j, none⟩ (.int .i64 (-78)))) := HS.out.trans (Sole.setCell _ _ _)
          have i0 : (0 : Int) ≤ (j : Int) := by omega
          have i1 : (j : Int) < ((n + 4 : Nat) : Int) := by omega
          clear hk hx hz HK HS
          go_wp2
          go_roundw
          case rel => exact ⟨j + 1, by go_num, by omega, HK5, HS5⟩
          case measure => simp [intOf]; omega
        · obtain rfl : j = n + 4 := by omega
          go_wp2
          go_ret
          exact ⟨rfl, HS.out⟩
end Go.Proofs.YtihcdahmfdijoaaDoor
