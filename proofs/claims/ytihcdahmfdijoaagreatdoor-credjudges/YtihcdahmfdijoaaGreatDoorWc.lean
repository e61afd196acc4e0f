/- The document: may a mark be? -/
import Derived.Test.YtihcdahmfdijoaaGreatDoorWb
import Derived.Test.YtihcdahmfdijoaaGreatDoorCf
import Derived.Test.YtihcdahmfdijoaaGreatDoorCl
namespace Go.Proofs.YtihcdahmfdijoaaGreatDoor
open Go.RowKit
set_option maxRecDepth 4000 in
set_option maxHeartbeats 2000000 in
theorem markMay_core (i q u st us gr : Int) (mc : List UInt8) (n : Nat) (oa : Option Addr) (ca : Nat) (x : Bool) (w : World) (HS0 : ∀ w', Below w.heap.size w w' → Calls Tryz.prog 53 #[.agg #[.int .i64 st, .string ⟨mc.toArray⟩, .int .i64 us, .int .i64 gr, .slice oa n ca]] w' fun e w'' => e = .returned (.bool x) ∧ Below w'.heap.size w' w'') :
    Calls Tryz.prog 29 #[.agg #[.int .i64 i, .int .i64 q, .int .i64 u, .int .i64 st, .string ⟨mc.toArray⟩, .int .i64 us, .int .i64 gr, .slice oa n ca]] w fun e w' => e = .returned (.bool (x && numsB i q u)) ∧ Below w.heap.size w w' := by
  obtain ⟨w2, hw2⟩ : ∃ y, w.alloc (.cells #[.int .i64 i, .int .i64 q, .int .i64 u, .int .i64 st, .string ⟨mc.toArray⟩, .int .i64 us, .int .i64 gr, .slice oa n ca] 35) = y := ⟨_, rfl⟩
  have HK : Hid (Bk w2 w.heap.size [.int .i64 i, .int .i64 q, .int .i64 u, .int .i64 st, .string ⟨mc.toArray⟩, .int .i64 us, .int .i64 gr, .slice oa n ca] 35 ∧ Below w.heap.size w w2) := ⟨by rw [← hw2]; exact Bk.new _ _ _, by rw [← hw2]; exact below_new _ _⟩
  have HS := hid (HS0 w2 HK.out.2)
  have HW2 := hid hw2
  clear hw2 HS0
  cases x
  · rw [Bool.false_and]
    go_enter Tryz.func29, Tryz.ntmps29
    go_wp2_with fail
    rw [HW2.out]
    refine HS.out.mono ?_
    rintro e w3 ⟨rfl, hB3⟩
    have hk := HK.out.1.below hB3 (by have := HK.out.1.lt; omega)
    have HB : Hid (Below w.heap.size w w3) := HK.out.2.trans (hB3.mono HK.out.2.size)
    have c0 := hk.cell 0 rfl
    have c1 := hk.cell 1 rfl
    have c2 := hk.cell 2 rfl
    clear hk hB3
    go_wp2
    go_ret
    exact ⟨rfl, HB.out⟩
  · rw [Bool.true_and]
    by_cases h1 : 1 ≤ i
    · have h1d : decide (1 ≤ i) = true := decide_eq_true h1
      by_cases h2 : i ≤ 4611686018427387904
      · have h2d : decide (i ≤ 4611686018427387904) = true := decide_eq_true h2
        by_cases h3 : 1 ≤ q
        · have h3d : decide (1 ≤ q) = true := decide_eq_true h3
          by_cases h4 : q ≤ 4294967295
          · have h4d : decide (q ≤ 4294967295) = true := decide_eq_true h4
            by_cases h5 : 1 ≤ u
            · have h5d : decide (1 ≤ u) = true := decide_eq_true h5
              by_cases h6 : u ≤ 4294967295
              · have h6d : decide (u ≤ 4294967295) = true := decide_eq_true h6
                have hr : numsB i q u = true := (numsB_iff i q u).2 ⟨⟨h1, h2⟩, ⟨h3, h4⟩, ⟨h5, h6⟩⟩
                rw [hr]
                clear hr
                go_enter Tryz.func29, Tryz.ntmps29
                go_wp2_with fail
                rw [HW2.out]
                refine HS.out.mono ?_
                rintro e w3 ⟨rfl, hB3⟩
                have hk := HK.out.1.below hB3 (by have := HK.out.1.lt; omega)
                have HB : Hid (Below w.heap.size w w3) := HK.out.2.trans (hB3.mono HK.out.2.size)
                have c0 := hk.cell 0 rfl
                have c1 := hk.cell 1 rfl
                have c2 := hk.cell 2 rfl
                clear hk hB3
                go_wp2
                go_ret
                exact ⟨rfl, HB.out⟩
              · have h6d : decide (u ≤ 4294967295) = false := decide_eq_false h6
                have hr : numsB i q u = false := by cases hn : numsB i q u; rfl; have := (numsB_iff i q u).1 hn; omega
                rw [hr]
                clear hr
                go_enter Tryz.func29, Tryz.ntmps29
                go_wp2_with fail
                rw [HW2.out]
                refine HS.out.mono ?_
                rintro e w3 ⟨rfl, hB3⟩
                have hk := HK.out.1.below hB3 (by have := HK.out.1.lt; omega)
                have HB : Hid (Below w.heap.size w w3) := HK.out.2.trans (hB3.mono HK.out.2.size)
                have c0 := hk.cell 0 rfl
                have c1 := hk.cell 1 rfl
                have c2 := hk.cell 2 rfl
                clear hk hB3
                go_wp2
                go_ret
                exact ⟨rfl, HB.out⟩
            · have h5d : decide (1 ≤ u) = false := decide_eq_false h5
              have hr : numsB i q u = false := by cases hn : numsB i q u; rfl; have := (numsB_iff i q u).1 hn; omega
              rw [hr]
              clear hr
              go_enter Tryz.func29, Tryz.ntmps29
              go_wp2_with fail
              rw [HW2.out]
              refine HS.out.mono ?_
              rintro e w3 ⟨rfl, hB3⟩
              have hk := HK.out.1.below hB3 (by have := HK.out.1.lt; omega)
              have HB : Hid (Below w.heap.size w w3) := HK.out.2.trans (hB3.mono HK.out.2.size)
              have c0 := hk.cell 0 rfl
              have c1 := hk.cell 1 rfl
              have c2 := hk.cell 2 rfl
              clear hk hB3
              go_wp2
              go_ret
              exact ⟨rfl, HB.out⟩
          · have h4d : decide (q ≤ 4294967295) = false := decide_eq_false h4
            have hr : numsB i q u = false := by cases hn : numsB i q u; rfl; have := (numsB_iff i q u).1 hn; omega
            rw [hr]
            clear hr
            go_enter Tryz.func29, Tryz.ntmps29
            go_wp2_with fail
            rw [HW2.out]
            refine HS.out.mono ?_
            rintro e w3 ⟨rfl, hB3⟩
            have hk := HK.out.1.below hB3 (by have := HK.out.1.lt; omega)
            have HB : Hid (Below w.heap.size w w3) := HK.out.2.trans (hB3.mono HK.out.2.size)
            have c0 := hk.cell 0 rfl
            have c1 := hk.cell 1 rfl
            have c2 := hk.cell 2 rfl
            clear hk hB3
            go_wp2
            go_ret
            exact ⟨rfl, HB.out⟩
        · have h3d : decide (1 ≤ q) = false := decide_eq_false h3
          have hr : numsB i q u = false := by cases hn : numsB i q u; rfl; have := (numsB_iff i q u).1 hn; omega
          rw [hr]
          clear hr
          go_enter Tryz.func29, Tryz.ntmps29
          go_wp2_with fail
          rw [HW2.out]
          refine HS.out.mono ?_
          rintro e w3 ⟨rfl, hB3⟩
          have hk := HK.out.1.below hB3 (by have := HK.out.1.lt; omega)
          have HB : Hid (Below w.heap.size w w3) := HK.out.2.trans (hB3.mono HK.out.2.size)
          have c0 := hk.cell 0 rfl
          have c1 := hk.cell 1 rfl
          have c2 := hk.cell 2 rfl
          clear hk hB3
          go_wp2
          go_ret
          exact ⟨rfl, HB.out⟩
      · have h2d : decide (i ≤ 4611686018427387904) = false := decide_eq_false h2
        have hr : numsB i q u = false := by cases hn : numsB i q u; rfl; have := (numsB_iff i q u).1 hn; omega
        rw [hr]
        clear hr
        go_enter Tryz.func29, Tryz.ntmps29
        go_wp2_with fail
        rw [HW2.out]
        refine HS.out.mono ?_
        rintro e w3 ⟨rfl, hB3⟩
        have hk := HK.out.1.below hB3 (by have := HK.out.1.lt; omega)
        have HB : Hid (Below w.heap.size w w3) := HK.out.2.trans (hB3.mono HK.out.2.size)
        have c0 := hk.cell 0 rfl
        have c1 := hk.cell 1 rfl
        have c2 := hk.cell 2 rfl
        clear hk hB3
        go_wp2
        go_ret
        exact ⟨rfl, HB.out⟩
    · have h1d : decide (1 ≤ i) = false := decide_eq_false h1
      have hr : numsB i q u = false := by cases hn : numsB i q u; rfl; have := (numsB_iff i q u).1 hn; omega
      rw [hr]
      clear hr
      go_enter Tryz.func29, Tryz.ntmps29
      go_wp2_with fail
      rw [HW2.out]
      refine HS.out.mono ?_
      rintro e w3 ⟨rfl, hB3⟩
      have hk := HK.out.1.below hB3 (by have := HK.out.1.lt; omega)
      have HB : Hid (Below w.heap.size w w3) := HK.out.2.trans (hB3.mono HK.out.2.size)
      have c0 := hk.cell 0 rfl
      have c1 := hk.cell 1 rfl
      have c2 := hk.cell 2 rfl
      clear hk hB3
      go_wp2
      go_ret
      exact ⟨rfl, HB.out⟩
theorem markMay_any (m : MarkP) (oa : Option Addr) (ca : Nat) (w : World) (hg : GsAt w w.heap.size oa m.sys.groups) :
    Calls Tryz.prog 29 #[.agg #[.int .i64 m.inst, .int .i64 m.seq, .int .i64 m.water, .int .i64 m.sys.stamp, .string ⟨m.sys.machine.toArray⟩, .int .i64 m.sys.user, .int .i64 m.sys.group, .slice oa m.sys.groups.length ca]] w fun e w' => e = .returned (.bool (decide m.may)) ∧ Below w.heap.size w w' := by
  have h := markMay_core m.inst m.seq m.water m.sys.stamp m.sys.user m.sys.group m.sys.machine m.sys.groups.length oa ca (decide m.sys.may) w (fun w' hB => sysMay_any m.sys oa ca w' ((hg.below hB).mono hB.size))
  have e : (decide m.sys.may && numsB m.inst m.seq m.water) = decide m.may := by
    rw [Bool.eq_iff_iff, Bool.and_eq_true, decide_eq_true_eq, decide_eq_true_eq, may_iff]
    exact ⟨fun x => ⟨x.2, x.1⟩, fun x => ⟨x.2, x.1⟩⟩
  rwa [e] at h
end Go.Proofs.YtihcdahmfdijoaaGreatDoor
