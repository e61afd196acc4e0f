/- Numbers lent, and looked at again: of the client's statements. -/
import Derived.Test.YteejeemljhmgcaaGreatDoorCi
import Derived.OwnWalk
import Derived.Laws.CopyOwn
import Derived.Deep.QuietTactic
import Derived.BigQuiet
namespace Go.Proofs.YteejeemljhmgcaaGreatDoor
open Go.RowKit
set_option maxRecDepth 4000 in
theorem ints_any (oa ob : Option Addr) (ca cb : Nat) (gs hs : List Int) (w : World) (hg : GsAt w w.heap.size oa gs) (hh : GsAt w w.heap.size ob hs) (hl : (gs.length : Int) ≤ 9223372036854775807) :
    Calls Tryz.prog 38 #[.slice oa gs.length ca, .slice ob hs.length cb] w fun e w' => e = .returned (.bool (gs == hs)) ∧ Below w.heap.size w w' := by
  by_cases hlen : gs.length = hs.length
  · have HG := hid hg
    have HH := hid hh
    obtain ⟨n, hn⟩ : ∃ n, gs.length = n := ⟨_, rfl⟩
    have hm : hs.length = n := hlen.symm.trans hn
    have HN := hid (And.intro hn hm)
    obtain ⟨r, hr⟩ : ∃ r, (gs == hs) = r := ⟨_, rfl⟩
    have HR : Hid ((∀ i, i < n → gs.getD i 0 = hs.getD i 0) ↔ r = true) := by
      show _ ↔ _
      rw [← hr, beq_iff_eq]
      constructor
      · intro H
        apply List.ext_getElem hlen
        intro i h1 h2
        have := H i (by omega)
        rwa [List.getD_eq_getElem?_getD, List.getD_eq_getElem?_getD, List.getElem?_eq_getElem h1, List.getElem?_eq_getElem h2] at this
      · intro H i _; rw [H]
    rw [hr, hn, hm]
    rw [hn] at hl
    clear hg hh hn hm hlen hr
    go_enter Tryz.func38, Tryz.ntmps38
    go_wp2_with fail
    go_loopw [5] (fun ix wr => ∃ j : Nat, ix = .int .i64 j ∧ j ≤ n ∧ Hid (∀ i, i < j → gs.getD i 0 = hs.getD i 0) ∧ Hid (Below w.heap.size w wr)) (fun ix _ => n - (intOf ix).toNat)
    case atStart => exact ⟨0, rfl, by omega, (fun i hi => by omega : ∀ i, i < 0 → gs.getD i 0 = hs.getD i 0), (Below.refl _ _ : Below w.heap.size w w)⟩
    case round =>
      obtain ⟨j, rfl, hj, HE, HB⟩ := hrel
      by_cases hlt : j < n
      · obtain ⟨q, off, ho, hq, hc⟩ := HG.out (by have := HN.out; omega)
        obtain ⟨q', off', ho', hq', hc'⟩ := HH.out (by have := HN.out; omega)
        have d1 : wr.cell? ⟨q, off + j, none⟩ = some (.int .i64 (gs.getD j 0)) := (cells_of_block (HB.out.block q hq) _).1.trans (hc j (by have := HN.out; omega))
        have d2 : wr.cell? ⟨q', off' + j, none⟩ = some (.int .i64 (hs.getD j 0)) := (cells_of_block (HB.out.block q' hq') _).1.trans (hc' j (by have := HN.out; omega))
        subst ho ho'
        obtain ⟨x, hx⟩ : ∃ x, gs.getD j 0 = x := ⟨_, rfl⟩
        obtain ⟨y, hy⟩ : ∃ y, hs.getD j 0 = y := ⟨_, rfl⟩
        rw [hx] at d1
        rw [hy] at d2
        have HX := hid (And.intro hx hy)
        have i0 : (0 : Int) ≤ (j : Int) := by omega
        have i1 : (j : Int) < (n : Int) := by omega
        clear hc hc' hx hy
        by_cases hxy : x = y
        · have HE2 : Hid (∀ i, i < j + 1 → gs.getD i 0 = hs.getD i 0) := fun i hi => by
            rcases Nat.lt_or_ge i j with h | h
            · exact HE.out i h
            · obtain rfl : i = j := by omega
              rw [HX.out.1, HX.out.2, hxy]
          clear HX
          subst hxy
          go_wp2_with fail
          go_quiet (fail)
          go_wp2
          go_roundw
          case rel => exact ⟨j + 1, by go_num, by omega, HE2, below_drew HB.out _⟩
          case measure => simp [intOf]; omega
        · have hr : r = false := by
            cases r
            · rfl
            · exact absurd (HR.out.2 rfl j hlt) (by rw [HX.out.1, HX.out.2]; exact hxy)
          subst hr
          have e1 : (x != y) = true := bne_iff_ne.2 hxy
          go_wp2_with fail
          go_quiet (fail)
          go_wp2
          go_ret
          exact ⟨rfl, below_drew HB.out _⟩
      · obtain rfl : j = n := by omega
        have hr : r = true := HR.out.1 HE.out
        subst hr
        go_wp2
        go_ret
        exact ⟨rfl, HB.out⟩
  · have hb : (gs == hs) = false := by
      simp only [beq_eq_false_iff_ne, ne_eq]
      exact fun e => hlen (by rw [e])
    rw [hb]
    have h1 : ((gs.length : Int) != (hs.length : Int)) = true := by simp; omega
    have h2 : ¬ (gs.length : Int) = (hs.length : Int) := by omega
    generalize gs.length = n at *
    generalize hs.length = m at *
    go_enter Tryz.func38, Tryz.ntmps38
    go_wp2
    go_ret
    exact ⟨rfl, Below.refl _ _⟩
theorem row_of_own {w : World} {base g n : Nat} {xs : List Value} (h : w.ownsRow base 3 1 (.slice (some ⟨g, 0, none⟩) n n) n xs) : Bk w g xs 3 := by
  rcases h.2 with ⟨h1, _⟩ | ⟨g', cap, cur, h1, _, hg, _, _, hs, ht⟩
  · cases h1
  · cases h1
    have e : cur.toList = xs := by
      rw [← ht]
      exact (List.take_of_length_le (by simp at hs ⊢; omega)).symm
    unfold Bk
    rw [← e]
    exact hg
theorem made_zero (n : Nat) : (madeCells (Value.int .i64 0).cells (n * 1)).toList = List.replicate n (.int .i64 0) := by
  apply List.ext_getElem
  · simp [madeCells]
  · intro i h1 h2
    simp [madeCells, Value.cells, Nat.mod_one]
theorem fill_set (A : List Value) (j k : Nat) (x y : Value) : (A ++ (List.replicate j x ++ List.replicate (k + 1) y)).set (A.length + j) x = A ++ (List.replicate (j + 1) x ++ List.replicate k y) := by
  rw [List.set_append_right _ _ (by omega), Nat.add_sub_cancel_left, List.set_append_right _ _ (by simp), List.length_replicate, Nat.sub_self, List.replicate_succ, List.set_cons_zero, List.replicate_succ', List.append_assoc]
  rfl
theorem fill_get (A : List Value) (j k : Nat) (x y : Value) : (A ++ (List.replicate j x ++ List.replicate (k + 1) y))[A.length + j]? = some y := by
  rw [List.getElem?_append_right (by omega), Nat.add_sub_cancel_left, List.getElem?_append_right (by simp), List.length_replicate, Nat.sub_self]
  simp
theorem intsV_get (gs : List Int) (i : Nat) (h : i < gs.length) : (intsV gs)[i]? = some (.int .i64 (gs.getD i 0)) := by
  unfold intsV
  rw [List.getElem?_map, List.getElem?_eq_getElem h, List.getD_eq_getElem?_getD, List.getElem?_eq_getElem h]; rfl
theorem copy_into {P : Program} {w w1 : World} {dT sT ty elem t : TypeId} {base : Nat} {oa : Option Addr} {ca n : Nat} {gs : List Int} (hu : P.underlying dT = some (.slice elem)) (hs : (P.info? elem).map (·.size) = some 1) (hn : gs.length = n)
    (hk : Bk w1 base (List.replicate (n + 4) (.int .i64 0)) t) (hB : Below base w w1) (hg : GsAt w base oa gs) :
    ∃ w2, (Builtin.copy_ #[dT, sT] ty #[.slice (some ⟨base, 0, none⟩) (n + 4) (n + 4), .slice oa n ca]).run P w1 = .ok (goInt n) w2 ∧ Bk w2 base (intsV gs ++ (List.replicate 0 (.int .i64 (-77)) ++ List.replicate 4 (.int .i64 0))) t ∧ Below base w w2 := by
  by_cases h0 : n = 0
  · subst h0
    obtain rfl : gs = [] := List.eq_nil_of_length_eq_zero hn
    refine ⟨w1, ?_, hk, hB⟩
    exact run_copy_none w1 dT sT ty elem _ oa _ _ 0 ca hu hs (by simp)
  · obtain ⟨q, off, hoa, hq, hc⟩ := hg (by omega)
    subst hoa
    have hm : (intsV gs).length = Nat.min n (n + 4) := by rw [intsV_len, hn]; exact (Nat.min_eq_left (by omega)).symm
    have h := run_copy_row (P := P) w1 dT sT ty elem base 0 (n + 4) (n + 4) ⟨q, off, none⟩ n ca (List.replicate (n + 4) (Value.int .i64 0)).toArray t (intsV gs) hu hs hk hm (fun j v hj => ?_) (by simp [intsV_len]; omega) (fun v hv => ?_)
    · refine ⟨_, by rw [h, intsV_len, hn], ?_, below_setRow hB (Nat.le_refl _) _⟩
      have h2 := fun cs => setRow_heap w1 base (List.replicate (n + 4) (Value.int .i64 0)).toArray cs t (0, 0) hk
      unfold Bk
      rw [h2]
      have e : intsV gs ++ List.replicate 4 (Value.int .i64 0) = intsV gs ++ (List.replicate 0 (.int .i64 (-77)) ++ List.replicate 4 (.int .i64 0)) := rfl
      rw [← e]
      simp
    · have hj2 : j < gs.length := by
        have := (List.getElem?_eq_some_iff.1 hj).1
        rwa [intsV_len] at this
      rw [intsV_get gs j hj2] at hj
      cases hj
      rw [Go.Lib.add_plain, (cells_of_block (hB.block q hq) _).1]
      exact hc j hj2
    · obtain ⟨g, _, rfl⟩ := List.mem_map.1 hv
      rfl
set_option maxRecDepth 4000 in
theorem lent_any (oa : Option Addr) (ca : Nat) (gs : List Int) (w : World) (hg : GsAt w w.heap.size oa gs) (hl : gs.length ≤ 2147483647) :
    Calls Tryz.prog 25 #[.slice oa gs.length ca] w fun e w' => e = .returned (.slice (some ⟨w.heap.size, 0, none⟩) (gs.length + 4) (gs.length + 4)) ∧ Bk w' w.heap.size (intsV gs ++ List.replicate 4 (.int .i64 (-77))) 3 ∧ Below w.heap.size w w' := by
  obtain ⟨inf, hi1, hi2, hi3, hi4⟩ := info_int
  obtain ⟨n, hn⟩ : ∃ n, gs.length = n := ⟨_, rfl⟩
  have HN := hid hn
  have HG := hid hg
  rw [hn] at hl ⊢
  have HI := hid (And.intro hi1 (And.intro hi2 (And.intro hi3 hi4)))
  have HL := hid hl
  have hl2 : (n : Int) ≤ 2147483647 := by omega
  have e4 : IntKind.i64.wrap ((n : Int) + 4) = ((n + 4 : Nat) : Int) := by rw [IntKind.wrap_i64]; omega
  clear hi1 hi2 hi3 hi4 hg hn hl
  go_enter Tryz.func25, Tryz.ntmps25
  go_wp2_with (at_make; refine Hid.out ?_)
  refine (show Hid _ from ?_)
  refine wpList_make_full _ rfl _ _ 24 rfl w.heap.size 3 inf (.int .i64 0) 1 Tryz.underlying24 HI.out.1 HI.out.2.1 HI.out.2.2.1 .i64 .i64 _ _ (n + 4) rfl rfl (by push_cast; rfl) (by push_cast; rfl) (by rw [HI.out.2.2.2]; have := HL.out; omega) (by have := HL.out; unfold maxLen; omega) (Nat.le_refl _) ?_
  intro w1 ho hgr
  have hB1 : Below w.heap.size w w1 := (Below.refl _ _).grown hgr (Nat.le_refl _) (fun k e => by cases e)
  have hk1 := row_of_own ho
  rw [made_zero] at hk1
  have HK1 := hid hk1
  have HB1 := hid hB1
  clear ho hgr hk1 hB1 e4
  obtain ⟨w2, hcp, hk2, hB2⟩ := copy_into (P := Tryz.prog) (sT := 24) (ty := 3) (ca := ca) (t := 3) (base := w.heap.size) (Tryz.underlying24) (by rw [HI.out.1]; simp [HI.out.2.2.1]) HN.out HK1.out HB1.out HG.out
  have HK2 : Hid (Bk w2 w.heap.size (intsV gs ++ (List.replicate 0 (.int .i64 (-77)) ++ List.replicate 4 (.int .i64 0))) 3) := hk2
  have HB2 := hid hB2
  clear hk2 hB2 HK1 HB1
  go_wp2
  clear hcp
  go_loopw [4] (fun ix wr => ∃ j : Nat, ix = .int .i64 ((n + j : Nat) : Int) ∧ j ≤ 4 ∧ Hid (Bk wr w.heap.size (intsV gs ++ (List.replicate j (.int .i64 (-77)) ++ List.replicate (4 - j) (.int .i64 0))) 3) ∧ Hid (Below w.heap.size w wr)) (fun ix _ => n + 4 - (intOf ix).toNat)
  case atStart => exact ⟨0, by simp, by omega, HK2, HB2⟩
  case round =>
    obtain ⟨j, rfl, hj, HK, HB⟩ := hrel
    by_cases hlt : j < 4
    · obtain ⟨k, hk⟩ : ∃ k, 4 - j = k + 1 := ⟨4 - j - 1, by omega⟩
      have c := HK.out.cell (n + j) (v := .int .i64 0) (by rw [hk]; have := fill_get (intsV gs) j k (.int .i64 (-77)) (.int .i64 0); rwa [intsV_len, HN.out] at this)
      have f := HK.out.frozen (n + j)
      have HK3 : Hid (Bk (wr.setCell ⟨w.heap.size, n + j, none⟩ (.int .i64 (-77))) w.heap.size (intsV gs ++ (List.replicate (j + 1) (.int .i64 (-77)) ++ List.replicate (4 - (j + 1)) (.int .i64 0))) 3) := by
        have h1 := HK.out.set (n + j) (.int .i64 (-77))
        rw [hk] at h1
        have h2 := fill_set (intsV gs) j k (.int .i64 (-77)) (.int .i64 0)
        rw [intsV_len, HN.out] at h2
        rw [h2] at h1
        rw [show 4 - (j + 1) = k by omega]
        exact h1
      have HB3 : Hid (Below w.heap.size w (wr.setCell ⟨w.heap.size, n + j, none⟩ (.int .i64 (-77)))) := HB.out.setCell (Nat.le_refl _) _
      have i0 : (0 : Int) ≤ ((n + j : Nat) : Int) := by omega
      have i1 : ((n + j : Nat) : Int) < ((n + 4 : Nat) : Int) := by omega
      have i2 : n + j < n + 4 := by omega
      clear hk
      go_wp2
      go_roundw
      case rel => exact ⟨j + 1, by go_num, by omega, HK3, HB3⟩
      case measure => simp [intOf]; omega
    · obtain rfl : j = 4 := by omega
      go_wp2
      go_ret
      refine ⟨rfl, ?_, HB.out⟩
      simpa using HK.out
theorem lent_get (gs : List Int) (i : Nat) (h : i < gs.length) : (intsV gs ++ List.replicate 4 (.int .i64 (-77)))[i]? = some (.int .i64 (gs.getD i 0)) := by
  rw [List.getElem?_append_left (by rw [intsV_len]; exact h)]
  exact intsV_get gs i h
theorem lent_tail (gs : List Int) (j : Nat) (h : j < 4) : (intsV gs ++ List.replicate 4 (.int .i64 (-77)))[gs.length + j]? = some (.int .i64 (-77)) := by
  rw [List.getElem?_append_right (by rw [intsV_len]; omega), intsV_len, Nat.add_sub_cancel_left, List.getElem?_replicate]
  simp [h]
theorem lent_gs {w : World} {g : Nat} {gs : List Int} {t : TypeId} (h : Bk w g (intsV gs ++ List.replicate 4 (.int .i64 (-77))) t) : GsAt w w.heap.size (some ⟨g, 0, none⟩) gs := fun _ => ⟨g, 0, rfl, h.lt, fun i hi => by
  rw [Nat.zero_add]
  exact h.cell i (lent_get gs i hi)⟩
/-- A row of numbers. -/
def Nums (n : Nat) (xs : List Value) : Prop := xs.length = n ∧ ∀ i, i < n → ∃ z, xs[i]? = some (.int .i64 z)
theorem Nums.set {n : Nat} {xs : List Value} (h : Nums n xs) (i : Nat) (z : Int) : Nums n (xs.set i (.int .i64 z)) := by
  refine ⟨by rw [List.length_set]; exact h.1, fun j hj => ?_⟩
  by_cases e : i = j
  · subst e
    exact ⟨z, by rw [List.getElem?_set_self (by rw [h.1]; exact hj)]⟩
  · rw [List.getElem?_set_ne e]
    exact h.2 j hj
theorem lent_nums (gs : List Int) : Nums (gs.length + 4) (intsV gs ++ List.replicate 4 (.int .i64 (-77))) := by
  refine ⟨by simp [intsV_len], fun i hi => ?_⟩
  by_cases h : i < gs.length
  · exact ⟨_, lent_get gs i h⟩
  · have := lent_tail gs (i - gs.length) (by omega)
    rw [show gs.length + (i - gs.length) = i by omega] at this
    exact ⟨_, this⟩
set_option maxRecDepth 4000 in
theorem whole_any (g : Nat) (oa : Option Addr) (ca : Nat) (gs : List Int) (w : World) (hk : Bk w g (intsV gs ++ List.replicate 4 (.int .i64 (-77))) 3) (hg : GsAt w w.heap.size oa gs) (hl : gs.length ≤ 2147483647) :
    Calls Tryz.prog 27 #[.slice (some ⟨g, 0, none⟩) (gs.length + 4) (gs.length + 4), .slice oa gs.length ca] w fun e w' => e = .returned (.bool true) ∧ Sole g w w' := by
  have HI : Hid (Calls Tryz.prog 38 #[.slice (some ⟨g, 0, none⟩) gs.length (gs.length + 4), .slice oa gs.length ca] w fun e w' => e = .returned (.bool true) ∧ Below w.heap.size w w') := by
    have := ints_any (some ⟨g, 0, none⟩) oa (gs.length + 4) ca gs gs w (lent_gs hk) hg (by omega)
    rwa [show (gs == gs) = true by simp] at this
  have HC : Hid (∀ wr, Below w.heap.size w wr → Bk wr g (intsV gs ++ List.replicate 4 (.int .i64 (-77))) 3) := fun wr h => hk.below h hk.lt
  have HT := hid (lent_tail gs)
  have HM := hid (lent_nums gs)
  clear hk hg
  obtain ⟨n, hn⟩ : ∃ n, gs.length = n := ⟨_, rfl⟩
  rw [hn] at hl HI HT HM ⊢
  have hl2 : (n : Int) ≤ 2147483647 := by omega
  have s0 : (0 : Int) ≤ (n : Int) := by omega
  have s1 : (n : Int) ≤ ((n + 4 : Nat) : Int) := by omega
  clear hn hl
  go_enter Tryz.func27, Tryz.ntmps27
  go_wp2_with fail
  refine HI.out.mono ?_
  rintro e w3 ⟨rfl, hB3⟩
  have HB3 := hid hB3
  clear HI hB3
  go_wp2_with fail
  go_loopw [5, 6] (fun is ix wr => ∃ j : Nat, is = .bool true ∧ ix = .int .i64 ((n + j : Nat) : Int) ∧ j ≤ 4 ∧ Hid (Below w.heap.size w wr)) (fun _ ix _ => n + 4 - (intOf ix).toNat)
  case atStart => exact ⟨0, rfl, by simp, by omega, HB3⟩
  case round =>
    obtain ⟨j, rfl, rfl, hj, HB⟩ := hrel
    by_cases hlt : j < 4
    · have c := (HC.out wr HB.out).cell (n + j) (HT.out j hlt)
      have i0 : (0 : Int) ≤ ((n + j : Nat) : Int) := by omega
      have i1 : ((n + j : Nat) : Int) < ((n + 4 : Nat) : Int) := by omega
      have i2 : n + j < n + 4 := by omega
      go_wp2
      go_roundw
      case rel => exact ⟨j + 1, rfl, by go_num, by omega, HB⟩
      case measure => simp [intOf]; omega
    · obtain rfl : j = 4 := by omega
      have HK4 : Hid (∃ xs, Bk wr g xs 3 ∧ Nums (n + 4) xs) := ⟨_, HC.out wr HB.out, HM.out⟩
      have HS4 : Hid (Sole g w wr) := Sole.of_below HB.out
      clear HC HT HM HB
      go_wp2_with fail
      go_loopw [7] (fun ix wr => ∃ j : Nat, ix = .int .i64 (j : Int) ∧ j ≤ n + 4 ∧ Hid (∃ xs, Bk wr g xs 3 ∧ Nums (n + 4) xs) ∧ Hid (Sole g w wr)) (fun ix _ => n + 4 - (intOf ix).toNat)
      case atStart => exact ⟨0, rfl, by omega, HK4, HS4⟩
      case round =>
        obtain ⟨j, rfl, hj, HK, HS⟩ := hrel
        by_cases hlt : j < n + 4
        · obtain ⟨xs, hk, hx⟩ := HK.out
          obtain ⟨z, hz⟩ := hx.2 j hlt
          have c := hk.cell j hz
          have f := hk.frozen j
          have HK5 : Hid (∃ ys, Bk (wr.setCell ⟨g, j, none⟩ (.int .i64 4)) g ys 3 ∧ Nums (n + 4) ys) := ⟨_, hk.set j _, hx.set j _⟩
          have HS5 : Hid (Sole g w (wr.setCell ⟨g, j, none⟩ (.int .i64 4))) := HS.out.trans (Sole.setCell _ _ _)
          have i0 : (0 : Int) ≤ (j : Int) := by omega
          have i1 : (j : Int) < ((n + 4 : Nat) : Int) := by omega
          clear hk hx hz HK HS
          go_wp2
          go_roundw
          case rel => exact ⟨j + 1, by go_num, by omega, HK5, HS5⟩
          case measure => simp [intOf]; omega
        · obtain rfl : j = n + 4 := by omega
          go_wp2
          go_ret
          exact ⟨rfl, HS.out⟩
end Go.Proofs.YteejeemljhmgcaaGreatDoor
