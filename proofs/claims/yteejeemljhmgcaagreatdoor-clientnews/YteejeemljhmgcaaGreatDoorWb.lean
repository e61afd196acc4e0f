/- The document: may a sys be? -/
import Derived.Test.YteejeemljhmgcaaGreatDoorGi
import Derived.BigQuiet
import Derived.Deep.QuietTactic
import Derived.Deep.RegionWith
import Derived.LaidEql
import Derived.RowKitTokens
import Derived.WalkKit
import Derived.WalkLawsBesides
import Derived.WalkSpells
import Derived.Test.YteejeemljhmgcaaGreatDoorCd
namespace Go.Proofs.YteejeemljhmgcaaGreatDoor
open Go.RowKit
theorem rw_any (n : Int) (w : World) : Calls Tryz.prog 97 #[.int .i64 n] w fun e w' => e = .returned (.bool (decide (isW n))) ∧ w' = w := by
  rw [← isW_dec]
  by_cases h0 : 0 ≤ n
  · by_cases h1 : n ≤ 4294967295
    · rw [decide_eq_true h0, decide_eq_true h1]
      have h2 : decide (0 ≤ n) = true := decide_eq_true h0
      have h3 : decide (n ≤ 4294967295) = true := decide_eq_true h1
      go_enter Tryz.func97, Tryz.ntmps97
      go_wp2
      go_ret
      exact ⟨rfl, rfl⟩
    · rw [decide_eq_true h0, decide_eq_false h1]
      have h2 : decide (0 ≤ n) = true := decide_eq_true h0
      have h3 : decide (n ≤ 4294967295) = false := decide_eq_false h1
      go_enter Tryz.func97, Tryz.ntmps97
      go_wp2
      go_ret
      exact ⟨rfl, rfl⟩
  · rw [decide_eq_false h0]
    have h2 : decide (0 ≤ n) = false := decide_eq_false h0
    go_enter Tryz.func97, Tryz.ntmps97
    go_wp2
    go_ret
    exact ⟨rfl, rfl⟩
set_option maxRecDepth 4000 in
theorem sysMay_no (st us gr : Int) (mc : List UInt8) (gs : List Int) (oa : Option Addr) (ca : Nat) (x y z : Bool) (w : World) (H1 : Hid (∀ w, Calls Tryz.prog 97 #[.int .i64 st] w fun e w' => e = .returned (.bool x) ∧ w' = w)) (H2 : Hid (∀ w, Calls Tryz.prog 97 #[.int .i64 us] w fun e w' => e = .returned (.bool y) ∧ w' = w)) (H3 : Hid (∀ w, Calls Tryz.prog 97 #[.int .i64 gr] w fun e w' => e = .returned (.bool z) ∧ w' = w)) (hb : x = false ∨ y = false ∨ z = false ∨ (255 : Int) < mc.length ∨ (16 : Int) < gs.length) :
    Calls Tryz.prog 60 #[.agg #[.int .i64 st, .string ⟨mc.toArray⟩, .int .i64 us, .int .i64 gr, .slice oa gs.length ca]] w fun e w' => e = .returned (.bool false) ∧ Below w.heap.size w w' := by
  obtain ⟨w2, hw2⟩ : ∃ y, w.alloc (.cells #[.int .i64 st, .string ⟨mc.toArray⟩, .int .i64 us, .int .i64 gr, .slice oa gs.length ca] 26) = y := ⟨_, rfl⟩
  have HBK : Hid (Bk w2 w.heap.size [.int .i64 st, .string ⟨mc.toArray⟩, .int .i64 us, .int .i64 gr, .slice oa gs.length ca] 26 ∧ Below w.heap.size w w2) := ⟨by rw [← hw2]; exact Bk.new _ _ _, by rw [← hw2]; exact below_new _ _⟩
  have c0 := HBK.out.1.cell 0 rfl
  have c1 := HBK.out.1.cell 1 rfl
  have c2 := HBK.out.1.cell 2 rfl
  have c3 := HBK.out.1.cell 3 rfl
  have c4 := HBK.out.1.cell 4 rfl
  have HW2 := hid hw2
  clear hw2
  cases x
  · clear hb
    go_enter Tryz.func60, Tryz.ntmps60
    go_wp2_with fail
    rw [HW2.out]
    refine (H1.out _).mono ?_
    rintro e w1 ⟨rfl, hw⟩
    rw [hw]
    clear hw
    go_wp2_with fail
    refine (H2.out _).mono ?_
    rintro e w1 ⟨rfl, hw⟩
    rw [hw]
    clear hw
    go_wp2_with fail
    refine (H3.out _).mono ?_
    rintro e w1 ⟨rfl, hw⟩
    rw [hw]
    clear hw
    go_wp2
    go_ret
    exact ⟨rfl, HBK.out.2⟩
  · cases y
    · clear hb
      go_enter Tryz.func60, Tryz.ntmps60
      go_wp2_with fail
      rw [HW2.out]
      refine (H1.out _).mono ?_
      rintro e w1 ⟨rfl, hw⟩
      rw [hw]
      clear hw
      go_wp2_with fail
      refine (H2.out _).mono ?_
      rintro e w1 ⟨rfl, hw⟩
      rw [hw]
      clear hw
      go_wp2_with fail
      refine (H3.out _).mono ?_
      rintro e w1 ⟨rfl, hw⟩
      rw [hw]
      clear hw
      go_wp2
      go_ret
      exact ⟨rfl, HBK.out.2⟩
    · cases z
      · clear hb
        go_enter Tryz.func60, Tryz.ntmps60
        go_wp2_with fail
        rw [HW2.out]
        refine (H1.out _).mono ?_
        rintro e w1 ⟨rfl, hw⟩
        rw [hw]
        clear hw
        go_wp2_with fail
        refine (H2.out _).mono ?_
        rintro e w1 ⟨rfl, hw⟩
        rw [hw]
        clear hw
        go_wp2_with fail
        refine (H3.out _).mono ?_
        rintro e w1 ⟨rfl, hw⟩
        rw [hw]
        clear hw
        go_wp2
        go_ret
        exact ⟨rfl, HBK.out.2⟩
      · by_cases hl : (255 : Int) < mc.length
        · clear hb
          go_enter Tryz.func60, Tryz.ntmps60
          go_wp2_with fail
          rw [HW2.out]
          refine (H1.out _).mono ?_
          rintro e w1 ⟨rfl, hw⟩
          rw [hw]
          clear hw
          go_wp2_with fail
          refine (H2.out _).mono ?_
          rintro e w1 ⟨rfl, hw⟩
          rw [hw]
          clear hw
          go_wp2_with fail
          refine (H3.out _).mono ?_
          rintro e w1 ⟨rfl, hw⟩
          rw [hw]
          clear hw
          go_wp2
          go_ret
          exact ⟨rfl, HBK.out.2⟩
        · have hg : (16 : Int) < gs.length := by
            rcases hb with h | h | h | h | h
            · cases h
            · cases h
            · cases h
            · exact absurd h hl
            · exact h
          clear hb
          go_enter Tryz.func60, Tryz.ntmps60
          go_wp2_with fail
          rw [HW2.out]
          refine (H1.out _).mono ?_
          rintro e w1 ⟨rfl, hw⟩
          rw [hw]
          clear hw
          go_wp2_with fail
          refine (H2.out _).mono ?_
          rintro e w1 ⟨rfl, hw⟩
          rw [hw]
          clear hw
          go_wp2_with fail
          refine (H3.out _).mono ?_
          rintro e w1 ⟨rfl, hw⟩
          rw [hw]
          clear hw
          go_wp2
          go_ret
          exact ⟨rfl, HBK.out.2⟩
set_option maxRecDepth 4000 in
theorem sysMay_yes (st us gr : Int) (mc : List UInt8) (gs : List Int) (oa : Option Addr) (ca : Nat) (x y z : Bool) (w : World) (H1 : Hid (∀ w, Calls Tryz.prog 97 #[.int .i64 st] w fun e w' => e = .returned (.bool x) ∧ w' = w)) (H2 : Hid (∀ w, Calls Tryz.prog 97 #[.int .i64 us] w fun e w' => e = .returned (.bool y) ∧ w' = w)) (H3 : Hid (∀ w, Calls Tryz.prog 97 #[.int .i64 gr] w fun e w' => e = .returned (.bool z) ∧ w' = w)) (hx : x = true) (hy : y = true) (hz : z = true) (hl : ¬ (255 : Int) < mc.length) (hn : ¬ (16 : Int) < gs.length) (hg : GsAt w w.heap.size oa gs) (r : Bool) (hr : r = true ↔ ∀ g ∈ gs, isW g) :
    Calls Tryz.prog 60 #[.agg #[.int .i64 st, .string ⟨mc.toArray⟩, .int .i64 us, .int .i64 gr, .slice oa gs.length ca]] w fun e w' => e = .returned (.bool r) ∧ Below w.heap.size w w' := by
  subst hx hy hz
  have HG := hid hg
  have HR := hid hr
  have H4 := hid rw_any
  obtain ⟨n, hN⟩ : ∃ n, gs.length = n := ⟨_, rfl⟩
  have HN := hid hN
  rw [hN] at hn
  clear hg hr
  rw [hN]
  clear hN
  obtain ⟨w2, hw2⟩ : ∃ y, w.alloc (.cells #[.int .i64 st, .string ⟨mc.toArray⟩, .int .i64 us, .int .i64 gr, .slice oa n ca] 26) = y := ⟨_, rfl⟩
  have HBK : Hid (Bk w2 w.heap.size [.int .i64 st, .string ⟨mc.toArray⟩, .int .i64 us, .int .i64 gr, .slice oa n ca] 26 ∧ Below w.heap.size w w2) := ⟨by rw [← hw2]; exact Bk.new _ _ _, by rw [← hw2]; exact below_new _ _⟩
  have c0 := HBK.out.1.cell 0 rfl
  have c1 := HBK.out.1.cell 1 rfl
  have c2 := HBK.out.1.cell 2 rfl
  have c3 := HBK.out.1.cell 3 rfl
  have c4 := HBK.out.1.cell 4 rfl
  have HW2 := hid hw2
  clear hw2
  go_enter Tryz.func60, Tryz.ntmps60
  go_wp2_with fail
  rw [HW2.out]
  refine (H1.out _).mono ?_
  rintro e w1 ⟨rfl, hw⟩
  rw [hw]
  clear hw
  go_wp2_with fail
  refine (H2.out _).mono ?_
  rintro e w1 ⟨rfl, hw⟩
  rw [hw]
  clear hw
  go_wp2_with fail
  refine (H3.out _).mono ?_
  rintro e w1 ⟨rfl, hw⟩
  rw [hw]
  clear hw
  go_wp2_with fail
  go_loopw [6] (fun ix wr => ∃ j : Nat, ix = .int .i64 j ∧ j ≤ n ∧ wr = w2 ∧ Hid (∀ g ∈ gs.take j, isW g)) (fun ix _ => n - (intOf ix).toNat)
  case atStart => exact ⟨0, rfl, by omega, rfl, (fun g hg => by simp at hg : ∀ g ∈ gs.take 0, isW g)⟩
  case round =>
    obtain ⟨j, rfl, hj, hwr, HE⟩ := hrel
    subst hwr
    by_cases hlt : j < n
    · obtain ⟨q, off, ho, hq, hc⟩ := HG.out (by have := HN.out; omega)
      have d1 : wr.cell? ⟨q, off + j, none⟩ = some (.int .i64 (gs.getD j 0)) := (cells_of_block (HBK.out.2.block q hq) _).1.trans (hc j (by have := HN.out; omega))
      subst ho
      obtain ⟨v, hv⟩ : ∃ v, gs.getD j 0 = v := ⟨_, rfl⟩
      rw [hv] at d1
      have HV := hid hv
      have i0 : (0 : Int) ≤ (j : Int) := by omega
      have i1 : (j : Int) < (n : Int) := by omega
      obtain ⟨b, hb⟩ : ∃ b, decide (isW v) = b := ⟨_, rfl⟩
      have H5 := hid (H4.out v)
      rw [hb] at H5
      have HBV := hid hb
      have HJ : Hid (j < gs.length) := by show _ < _; have := HN.out; omega
      clear hc hv hb
      go_wp2_with fail
      refine (H5.out _).mono ?_
      rintro e w1 ⟨rfl, hw⟩
      rw [hw]
      clear hw
      cases b
      · have hr : r = false := by
          cases r
          · rfl
          · have h1 := (all_take gs j HJ.out).1 (fun g hg => HR.out.1 rfl g (List.mem_of_mem_take hg))
            rw [HV.out] at h1
            exact absurd h1.2 (of_decide_eq_false HBV.out)
        subst hr
        go_wp2
        go_ret
        exact ⟨rfl, HBK.out.2⟩
      · have HE2 : Hid (∀ g ∈ gs.take (j + 1), isW g) := (all_take gs j HJ.out).2 ⟨HE.out, by rw [HV.out]; exact of_decide_eq_true HBV.out⟩
        go_wp2
        go_roundw
        case rel => exact ⟨j + 1, by go_num, by omega, by trivial, HE2⟩
        case measure => simp [intOf]; omega
    · obtain rfl : j = n := by omega
      have hr : r = true := HR.out.2 (by
        have := HE.out
        rwa [List.take_of_length_le (by have := HN.out; omega)] at this)
      subst hr
      go_wp2
      go_ret
      exact ⟨rfl, HBK.out.2⟩
theorem sysMay_any (s : SysP) (oa : Option Addr) (ca : Nat) (w : World) (hg : GsAt w w.heap.size oa s.groups) :
    Calls Tryz.prog 60 #[.agg #[.int .i64 s.stamp, .string ⟨s.machine.toArray⟩, .int .i64 s.user, .int .i64 s.group, .slice oa s.groups.length ca]] w fun e w' => e = .returned (.bool (decide s.may)) ∧ Below w.heap.size w w' := by
  by_cases h : (isW s.stamp ∧ isW s.user ∧ isW s.group) ∧ ¬ (255 : Int) < s.machine.length ∧ ¬ (16 : Int) < s.groups.length
  · refine sysMay_yes s.stamp s.user s.group s.machine s.groups oa ca _ _ _ w (rw_any _) (rw_any _) (rw_any _) (decide_eq_true h.1.1) (decide_eq_true h.1.2.1) (decide_eq_true h.1.2.2) h.2.1 h.2.2 hg _ ?_
    rw [decide_eq_true_eq]
    unfold SysP.may
    exact ⟨fun x => x.2.2.2.2.2, fun x => ⟨h.1.1, h.1.2.1, h.1.2.2, by omega, by omega, x⟩⟩
  · have hf : decide s.may = false := by
      rw [decide_eq_false_iff_not]
      intro hm
      unfold SysP.may at hm
      exact h ⟨⟨hm.1, hm.2.1, hm.2.2.1⟩, by have := hm.2.2.2.1; omega, by have := hm.2.2.2.2.1; omega⟩
    rw [hf]
    refine sysMay_no s.stamp s.user s.group s.machine s.groups oa ca _ _ _ w (rw_any _) (rw_any _) (rw_any _) ?_
    by_cases a : isW s.stamp
    · by_cases b : isW s.user
      · by_cases c : isW s.group
        · right; right; right
          by_cases d : (255 : Int) < s.machine.length
          · exact .inl d
          · right
            by_cases e : (16 : Int) < s.groups.length
            · exact e
            · exact absurd ⟨⟨a, b, c⟩, d, e⟩ h
        · right; right; left; exact decide_eq_false c
      · right; left; exact decide_eq_false b
    · left; exact decide_eq_false a
end Go.Proofs.YteejeemljhmgcaaGreatDoor
