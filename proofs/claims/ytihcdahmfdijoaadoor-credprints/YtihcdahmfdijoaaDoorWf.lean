/- Numbers lent: in their owner's memory, four behind them. -/
import Derived.Test.YtihcdahmfdijoaaDoorWe
import Derived.Test.YtihcdahmfdijoaaDoorCt
import Derived.OwnWalk
import Derived.Laws.CopyOwn
namespace Go.Proofs.YtihcdahmfdijoaaDoor
open Go.RowKit
theorem row_of_own {w : World} {base g n : Nat} {xs : List Value} (h : w.ownsRow base 3 1 (.slice (some ⟨g, 0, none⟩) n n) n xs) : Bk w g xs 3 := by
  rcases h.2 with ⟨h1, _⟩ | ⟨g', cap, cur, h1, _, hg, _, _, hs, ht⟩
  · cases h1
  · cases h1
    have e : cur.toList = xs := by
      rw [← ht]
      exact (List.take_of_length_le (by simp at hs ⊢; omega)).symm
    unfold Bk
    rw [← e]
    exact hg
theorem made_zero (n : Nat) : (madeCells (Value.int .i64 0).cells (n * 1)).toList = List.replicate n (.int .i64 0) := by
  apply List.ext_getElem
  · simp [madeCells]
  · intro i h1 h2
    simp [madeCells, Value.cells, Nat.mod_one]
theorem fill_set (A : List Value) (j k : Nat) (x y : Value) : (A ++ (List.replicate j x ++ List.replicate (k + 1) y)).set (A.length + j) x = A ++ (List.replicate (j + 1) x ++ List.replicate k y) := by
  rw [List.set_append_right _ _ (by omega), Nat.add_sub_cancel_left, List.set_append_right _ _ (by simp), List.length_replicate, Nat.sub_self, List.replicate_succ, List.set_cons_zero, List.replicate_succ', List.append_assoc]
  rfl
theorem fill_get (A : List Value) (j k : Nat) (x y : Value) : (A ++ (List.replicate j x ++ List.replicate (k + 1) y))[A.length + j]? = some y := by
  rw [List.getElem?_append_right (by omega), Nat.add_sub_cancel_left, List.getElem?_append_right (by simp), List.length_replicate, Nat.sub_self]
  simp
theorem intsV_get (gs : List Int) (i : Nat) (h : i < gs.length) : (intsV gs)[i]? = some (.int .i64 (gs.getD i 0)) := by
  unfold intsV
  rw [List.getElem?_map, List.getElem?_eq_getElem h, List.getD_eq_getElem?_getD, List.getElem?_eq_getElem h]; rfl
theorem copy_into {P : Program} {w w1 : World} {dT sT ty elem t : TypeId} {base : Nat} {oa : Option Addr} {ca n : Nat} {gs : List Int} (hu : P.underlying dT = some (.slice elem)) (hs : (P.info? elem).map (·.size) = some 1) (hn : gs.length = n)
    (hk : Bk w1 base (List.replicate (n + 4) (.int .i64 0)) t) (hB : Below base w w1) (hg : GsAt w base oa gs) :
    ∃ w2, (Builtin.copy_ #[dT, sT] ty #[.slice (some ⟨base, 0, none⟩) (n + 4) (n + 4), .slice oa n ca]).run P w1 = .ok (goInt n) w2 ∧ Bk w2 base (intsV gs ++ (List.replicate 0 (.int .i64 (-77)) ++ List.replicate 4 (.int .i64 0))) t ∧ Below base w w2 := by
  by_cases h0 : n = 0
  · subst h0
    obtain rfl : gs = [] := List.eq_nil_of_length_eq_zero hn
    refine ⟨w1, ?_, hk, hB⟩
    exact run_copy_none w1 dT sT ty elem _ oa _ _ 0 ca hu hs (by simp)
  · obtain ⟨q, off, hoa, hq, hc⟩ := hg (by omega)
    subst hoa
    have hm : (intsV gs).length = Nat.min n (n + 4) := by rw [intsV_len, hn]; exact (Nat.min_eq_left (by omega)).symm
    have h := run_copy_row (P := P) w1 dT sT ty elem base 0 (n + 4) (n + 4) ⟨q, off, none⟩ n ca (List.replicate (n + 4) (Value.int .i64 0)).toArray t (intsV gs) hu hs hk hm (fun j v hj => ?_) (by simp [intsV_len]; omega) (fun v hv => ?_)
    · refine ⟨_, by rw [h, intsV_len, hn], ?_, below_setRow hB (Nat.le_refl _) _⟩
      have h2 := fun cs => setRow_heap w1 base (List.replicate (n + 4) (Value.int .i64 0)).toArray cs t (0, 0) hk
      unfold Bk
      rw [h2]
      have e : intsV gs ++ List.replicate 4 (Value.int .i64 0) = intsV gs ++ (List.replicate 0 (.int .i64 (-77)) ++ List.replicate 4 (.int .i64 0)) := rfl
      rw [← e]
      simp
    · have hj2 : j < gs.length := by
        have := (List.getElem?_eq_some_iff.1 hj).1
        rwa [intsV_len] at this
      rw [intsV_get gs j hj2] at hj
      cases hj
      rw [Go.Lib.add_plain, (cells_of_block (hB.block q hq) _).1]
      exact hc j hj2
    · obtain ⟨g, _, rfl⟩ := List.mem_map.1 hv
      rfl
set_option maxRecDepth 4000 in
theorem lent_any (oa : Option Addr) (ca : Nat) (gs : List Int) (w : World) (hg : GsAt w w.heap.size oa gs) (hl : gs.length ≤ 2147483647) :
    Calls Tryd.prog 8 #[.slice oa gs.length ca] w fun e w' => e = .returned (.slice (some ⟨w.heap.size, 0, none⟩) (gs.length + 4) (gs.length + 4)) ∧ Bk w' w.heap.size (intsV gs ++ List.replicate 4 (.int .i64 (-77))) 3 ∧ Below w.heap.size w w' := by
  obtain ⟨inf, hi1, hi2, hi3, hi4⟩ := info_int
  obtain ⟨n, hn⟩ : ∃ n, gs.length = n := ⟨_, rfl⟩
  have HN := hid hn
  have HG := hid hg
  rw [hn] at hl ⊢
  have HI := hid (And.intro hi1 (And.intro hi2 (And.intro hi3 hi4)))
  have HL := hid hl
  have hl2 : (n : Int) ≤ 2147483647 := by omega
  have e4 : IntKind.i64.wrap ((n : Int) + 4) = ((n + 4 : Nat) : Int) := by rw [IntKind.wrap_i64]; omega
  clear hi1 hi2 hi3 hi4 hg hn hl
  go_enter Tryd.func8, Tryd.ntmps8
  go_wp2_with (at_make; refine Hid.out ?_)
  refine (show Hid _ from ?_)
  refine wpList_make_full _ rfl _ _ 22 rfl w.heap.size 3 inf (.int .i64 0) 1 Tryd.underlying22 HI.out.1 HI.out.2.1 HI.out.2.2.1 .i64 .i64 _ _ (n + 4) rfl rfl (by push_cast; rfl) (by push_cast; rfl) (by rw [HI.out.2.2.2]; have := HL.out; omega) (by have := HL.out; unfold maxLen; omega) (Nat.le_refl _) ?_
  intro w1 ho hgr
  have hB1 : Below w.heap.size w w1 := (Below.refl _ _).grown hgr (Nat.le_refl _) (fun k e => by cases e)
  have hk1 := row_of_own ho
  rw [made_zero] at hk1
  have HK1 := hid hk1
  have HB1 := hid hB1
  clear ho hgr hk1 hB1 e4
  obtain ⟨w2, hcp, hk2, hB2⟩ := copy_into (P := Tryd.prog) (sT := 22) (ty := 3) (ca := ca) (t := 3) (base := w.heap.size) (Tryd.underlying22) (by rw [HI.out.1]; simp [HI.out.2.2.1]) HN.out HK1.out HB1.out HG.out
  have HK2 : Hid (Bk w2 w.heap.size (intsV gs ++ (List.replicate 0 (.int .i64 (-77)) ++ List.replicate 4 (.int .i64 0))) 3) := hk2
  have HB2 := hid hB2
  clear hk2 hB2 HK1 HB1
  go_wp2
  clear hcp
  go_loopw [4] (fun ix wr => ∃ j : Nat, ix = .int .i64 ((n + j : Nat) : Int) ∧ j ≤ 4 ∧ Hid (Bk wr w.heap.size (intsV gs ++ (List.replicate j (.int .i64 (-77)) ++ List.replicate (4 - j) (.int .i64 0))) 3) ∧ Hid (Below w.heap.size w wr)) (fun ix _ => n + 4 - (intOf ix).toNat)
  case atStart => exact ⟨0, by simp, by omega, HK2, HB2⟩
  case round =>
    obtain ⟨j, rfl, hj, HK, HB⟩ := hrel
    by_cases hlt : j < 4
    · obtain ⟨k, hk⟩ : ∃ k, 4 - j = k + 1 := ⟨4 - j - 1, by omega⟩
      have c := HK.out.cell (n + j) (v := .int .i64 0) (by rw [hk]; have := fill_get (intsV gs) j k (.int .i64 (-77)) (.int .i64 0); rwa [intsV_len, HN.out] at this)
      have f := HK.out.frozen (n + j)
      have HK3 : Hid (Bk (wr.setCell ⟨w.heap.size, n + j, none⟩ (.int .i64 (-77))) w.heap.size (intsV gs ++ (List.replicate (j + 1) (.int .i64 (-77)) ++ List.replicate (4 - (j + 1)) (.int .i64 0))) 3) := by
        have h1 := HK.out.set (n + j) (.int .i64 (-77))
        rw [hk] at h1
        have h2 := fill_set (intsV gs) j k (.int .i64 (-77)) (.int .i64 0)
        rw [intsV_len, HN.out] at h2
        rw [h2] at h1
        rw [show 4 - (j + 1) = k by omega]
        exact h1
      have HB3 : Hid (Below w.heap.size w (wr.setCell ⟨w.heap.size, n + j, none⟩ (.int .i64 (-77)))) := HB.out.setCell (Nat.le_refl _) _
      have i0 : (0 : Int) ≤ ((n + j : Nat) : Int) := by omega
      have i1 : ((n + j : Nat) : Int) < ((n + 4 : Nat) : Int) := by omega
      have i2 : n + j < n + 4 := by omega
      clear hk
      go_wp2
      go_roundw
      case rel => exact ⟨j + 1, by go_num, by omega, HK3, HB3⟩
      case measure => simp [intOf]; omega
    · obtain rfl : j = 4 := by omega
      go_wp2
      go_ret
      refine ⟨rfl, ?_, HB.out⟩
      simpa using HK.out
end Go.Proofs.YtihcdahmfdijoaaDoor
