/- Services: numbers that meet again. -/
import Derived.Test.YtcpjihaicmlmjaaPTz
namespace Go.Proofs.Ytcpjihaicmlmjaa
open Go.RowKit
def nearS (acc : List Int × Int) (x : Int) : List Int × Int := (acc.1 ++ [acc.2 + 1 + pickP x 3], acc.2 + 1 + pickP x 3)
def nearL (gs : List Int) : List Int := (gs.foldl nearS ([], 0)).1
def nearO (o : OpR) (oa : Option Addr) (cap : Nat) : OpR := { o with prog := pickP o.prog 3, vers := pickP o.vers 4, proc := pickP o.proc 6, procs := nearL o.procs, oa := oa, cap := cap }
theorem near_step (gs : List Int) (j : Nat) (h : j < gs.length) : (gs.take (j + 1)).foldl nearS ([], 0) = nearS ((gs.take j).foldl nearS ([], 0)) (gs.getD j 0) := by
  rw [List.take_add_one, List.getD_eq_getElem?_getD, List.getElem?_eq_getElem h, List.foldl_append]
  rfl
theorem near_len (gs : List Int) : ∀ acc : List Int × Int, (gs.foldl nearS acc).1.length = acc.1.length + gs.length := by
  induction gs with
  | nil => intro acc; rfl
  | cons x r ih =>
    intro acc
    rw [List.foldl_cons, ih]
    simp [nearS]
    omega
theorem nearL_len (gs : List Int) : (nearL gs).length = gs.length := by
  unfold nearL
  rw [near_len]
  simp
theorem near_wrap {a y : Int} {j n : Nat} (h0 : 0 ≤ a) (ha : a ≤ 3 * (j : Int)) (hj : j < n) (hn : n ≤ 17592186044416) (hy : 0 ≤ y ∧ y < 3) : wrap64 (a + 1) = a + 1 ∧ wrap64 (a + 1 + y) = a + 1 + y ∧ 0 ≤ a + 1 + y ∧ a + 1 + y ≤ 3 * ((j + 1 : Nat) : Int) := by
  refine ⟨?_, ?_, by omega, by omega⟩
  · unfold wrap64; omega
  · unfold wrap64; omega
set_option maxRecDepth 8000 in
set_option maxHeartbeats 2000000 in
theorem near_any (o : OpR) (w : World) (hg : GsAt w w.heap.size o.oa o.procs) (h64 : ∀ i, i < o.procs.length → I64 (o.procs.getD i 0)) (hI : I64 o.prog ∧ I64 o.vers ∧ I64 o.proc) (hl : o.procs.length ≤ 17592186044415) :
    Calls Try.prog 7 #[.agg (opA o)] w fun e w' => ∃ oa cap, e = .returned (.agg (opA (nearO o oa cap))) ∧ GsN w' w.heap.size oa (nearL o.procs) ∧ Below w.heap.size w w' := by
  obtain ⟨w0, hw0⟩ : ∃ w0, w.alloc (.cells (opA o) 34) = w0 := ⟨_, rfl⟩
  obtain ⟨S0, hS0⟩ : ∃ S0, w.heap.size = S0 := ⟨_, rfl⟩
  have B0 : Below w.heap.size w w0 := by rw [← hw0]; exact (Below.refl _ _).alloc (Nat.le_refl _) _
  have k0 : w0.heap[S0]? = some (.cells (opA o) 34) := by rw [← hw0, ← hS0]; exact (MapKept.heap_alloc w _).1
  obtain ⟨w1, hw1⟩ : ∃ w1, w0.alloc (.cells op0 34) = w1 := ⟨_, rfl⟩
  obtain ⟨S1, hS1⟩ : ∃ S1, w0.heap.size = S1 := ⟨_, rfl⟩
  have b1 : Below w0.heap.size w0 w1 := by rw [← hw1]; exact (Below.refl _ _).alloc (Nat.le_refl _) _
  have hlt0 : S0 < w0.heap.size := (Array.getElem?_eq_some_iff.1 k0).1
  have k1 : w1.heap[S0]? = some (.cells (opA o) 34) := (b1.block S0 hlt0).trans k0
  have r1 : w1.heap[S1]? = some (.cells op0 34) := by rw [← hw1, ← hS1]; exact (MapKept.heap_alloc w0 _).1
  have B1 : Below w.heap.size w w1 := B0.trans (b1.mono B0.size)
  have hne : ¬ S1 = S0 := by omega
  -- three numbers are picked
  obtain ⟨P3, hP3⟩ : ∃ x, pickP o.prog 3 = x := ⟨_, rfl⟩
  obtain ⟨V4, hV4⟩ : ∃ x, pickP o.vers 4 = x := ⟨_, rfl⟩
  obtain ⟨C6, hC6⟩ : ∃ x, pickP o.proc 6 = x := ⟨_, rfl⟩
  have HP3 := hid (fun w => pick_any o.prog 3 w hI.1.1 hI.1.2 (by omega) (by omega))
  have HV4 := hid (fun w => pick_any o.vers 4 w hI.2.1.1 hI.2.1.2 (by omega) (by omega))
  have HC6 := hid (fun w => pick_any o.proc 6 w hI.2.2.1 hI.2.2.2 (by omega) (by omega))
  rw [hP3] at HP3
  rw [hV4] at HV4
  rw [hC6] at HC6
  obtain ⟨w2, hw2⟩ : ∃ x, w1.setCell ⟨S0, 4, none⟩ (.int .i64 P3) = x := ⟨_, rfl⟩
  obtain ⟨w3, hw3⟩ : ∃ x, w2.setCell ⟨S0, 5, none⟩ (.int .i64 V4) = x := ⟨_, rfl⟩
  obtain ⟨w4, hw4⟩ : ∃ x, w3.setCell ⟨S0, 6, none⟩ (.int .i64 C6) = x := ⟨_, rfl⟩
  have k2 : w2.heap[S0]? = some (.cells (opA { o with prog := P3 }) 34) := by rw [← hw2]; unfold World.setCell; simp [Array.getElem?_modify, k1]
  have k3 : w3.heap[S0]? = some (.cells (opA { o with prog := P3, vers := V4 }) 34) := by rw [← hw3]; unfold World.setCell; simp [Array.getElem?_modify, k2]
  have k4 : w4.heap[S0]? = some (.cells (opA { o with prog := P3, vers := V4, proc := C6 }) 34) := by rw [← hw4]; unfold World.setCell; simp [Array.getElem?_modify, k3]
  have r4 : w4.heap[S1]? = some (.cells op0 34) := by
    rw [← hw4, Below.heap_setCell _ _ _ _ (show S1 ≠ S0 from hne), ← hw3, Below.heap_setCell _ _ _ _ (show S1 ≠ S0 from hne), ← hw2, Below.heap_setCell _ _ _ _ (show S1 ≠ S0 from hne)]
    exact r1
  have B4 : Below w.heap.size w w4 := by
    rw [← hw4, ← hw3, ← hw2]
    exact below_set (below_set (below_set B1 (Nat.le_of_eq hS0) _ _) (Nat.le_of_eq hS0) _ _) (Nat.le_of_eq hS0) _ _
  have c14 := (op_cells k1).2.2.2.2.1
  have f14 := op_frozen k1 4
  have c25 := (op_cells k2).2.2.2.2.2.1
  have f25 := op_frozen k2 5
  have c36 := (op_cells k3).2.2.2.2.2.2.1
  have f36 := op_frozen k3 6
  simp only [] at c25 c36
  have c47 := (op_cells k4).2.2.2.2.2.2.2.1
  simp only [] at c47
  have HK4 := hid k4
  have HR4 := hid r4
  have HB4 := hid B4
  have HG := hid hg
  have H64 := hid h64
  have HL := hid hl
  obtain ⟨n, hn⟩ : ∃ n, o.procs.length = n := ⟨_, rfl⟩
  have HN := hid hn
  rw [hn] at c47
  have HNE := hid hne
  have HPV := hid (And.intro hP3 (And.intro hV4 hC6))
  have hb1 := bls1
  clear hg h64 hl k0 b1 hlt0 k1 r1 B1 k2 k3 k4 r4 B4 B0 hn hI hne hP3 hV4 hC6
  go_enter Try.func7, Try.ntmps7
  go_wp2_with fail
  refine (HP3.out _).mono ?_
  rintro _ x1 ⟨rfl, hx1⟩
  subst hx1
  go_wp2_with fail
  refine (HV4.out _).mono ?_
  rintro _ x2 ⟨rfl, hx2⟩
  subst hx2
  go_wp2_with fail
  refine (HC6.out _).mono ?_
  rintro _ x3 ⟨rfl, hx3⟩
  subst hx3
  go_wp2_with fail
  obtain ⟨X, hX⟩ : ∃ X : Nat → List Int, X = fun j => ((o.procs.take j).foldl nearS ([], 0)).1 := ⟨_, rfl⟩
  obtain ⟨Y, hY⟩ : ∃ Y : Nat → Int, Y = fun j => ((o.procs.take j).foldl nearS ([], 0)).2 := ⟨_, rfl⟩
  have HX0 : Hid (X 0 = [] ∧ Y 0 = 0) := by rw [hX, hY]; exact ⟨rfl, rfl⟩
  have HXS : Hid (∀ j, j < n → X (j + 1) = X j ++ [Y j + 1 + pickP (o.procs.getD j 0) 3] ∧ Y (j + 1) = Y j + 1 + pickP (o.procs.getD j 0) 3) := fun j hj => by
    rw [hX, hY]
    have := near_step o.procs j (by rw [HN.out]; exact hj)
    simp only [this]
    exact ⟨rfl, rfl⟩
  have HXN : Hid (X n = nearL o.procs) := by
    show _ = _
    rw [hX]
    simp only []
    rw [List.take_of_length_le (by rw [HN.out]; omega)]
    rfl
  clear hX hY
  go_loopw [3, 4, 5] (fun l la ix wr => ∃ (j : Nat) (a : Int), la = .int .i64 a ∧ ix = .int .i64 j ∧ j ≤ n ∧ Hid (a = Y j) ∧ Hid (0 ≤ a ∧ a ≤ 3 * (j : Int)) ∧ Hid ((X j).length = j) ∧ Hid (wr.ownsRow w4.heap.size 3 1 l (X j).length (gvs (X j))) ∧ Hid (Below w4.heap.size w4 wr)) (fun _ _ ix _ => n - (intOf ix).toNat)
  case atStart =>
    refine ⟨0, 0, rfl, rfl, by omega, HX0.out.2.symm, (by omega : (0 : Int) ≤ 0 ∧ (0 : Int) ≤ 3 * ((0 : Nat) : Int)), (by rw [HX0.out.1]; rfl : (X 0).length = 0), ?_, (Below.refl _ _ : Below w4.heap.size w4 w4)⟩
    rw [HX0.out.1]
    exact (⟨by simp [gvs], .inl ⟨rfl, by simp⟩⟩ : w4.ownsRow w4.heap.size 3 1 (.slice none 0 0) ([] : List Int).length (gvs []))
  case round =>
    obtain ⟨j, a, rfl, rfl, hj, HA, HAR, HLX, HE, HB⟩ := hrel
    obtain ⟨ob, c, rfl, hgs⟩ := own_gs HE.out
    have HGS := hid hgs
    rw [HLX.out] at HE ⊢
    have k4r : wr.heap[S0]? = some (.cells (opA { o with prog := P3, vers := V4, proc := C6 }) 34) := (HB.out.block S0 (Array.getElem?_eq_some_iff.1 HK4.out).1).trans HK4.out
    have HK4r := hid k4r
    have c7 := (op_cells k4r).2.2.2.2.2.2.2.1
    simp only [] at c7
    rw [HN.out] at c7
    have HBw := hid (HB4.out.trans (HB.out.mono HB4.out.size))
    clear hgs k4r
    by_cases hlt : j < n
    · obtain ⟨q, off, ho, hq, hc⟩ := HG.out (by have := HN.out; omega)
      have d1 : wr.cell? ⟨q, off + j, none⟩ = some (.int .i64 (o.procs.getD j 0)) := (cell_of_block (HBw.out.block q hq)).trans (hc j (by have := HN.out; omega))
      rw [ho] at c7
      have hx64 := H64.out j (by have := HN.out; omega)
      have HXS2 := hid (HXS.out j hlt)
      obtain ⟨x, hx⟩ : ∃ x, o.procs.getD j 0 = x := ⟨_, rfl⟩
      rw [hx] at d1 hx64 HXS2
      rw [← HA.out] at HXS2
      have HPX := hid (fun w => pick_any x 3 w hx64.1 hx64.2 (by omega) (by omega))
      have hyr := pick_range x 3 (by omega)
      obtain ⟨y, hy⟩ : ∃ y, pickP x 3 = y := ⟨_, rfl⟩
      rw [hy] at HPX hyr HXS2
      have j0 : (0 : Int) ≤ (j : Int) := by omega
      have j1 : (j : Int) < (n : Int) := by omega
      have hn44 : n ≤ 17592186044416 := by have := HL.out; have := HN.out; omega
      have hn14 : n ≤ 100000000000000 := by omega
      have hm1 : (X j).length + 1 ≤ 17592186044416 := by rw [HLX.out]; have := HL.out; have := HN.out; omega
      have HNW := hid (near_wrap HAR.out.1 HAR.out.2 hlt hn44 hyr)
      have HZ := hid HNW.out.2.2
      obtain ⟨S5, hS5⟩ : ∃ S5, wr.heap.size = S5 := ⟨_, rfl⟩
      obtain ⟨w5, hw5⟩ : ∃ w5, wr.alloc (.cells #[.int .i64 (a + 1 + y)] 3) = w5 := ⟨_, rfl⟩
      have b5 : Below wr.heap.size wr w5 := by rw [← hw5]; exact (Below.refl _ _).alloc (Nat.le_refl _) _
      have k5 : w5.heap[S5]? = some (.cells #[.int .i64 (a + 1 + y)] 3 (0, 0)) := by rw [← hw5, ← hS5]; exact (MapKept.heap_alloc wr _).1
      have HB5 := HB.out.trans (b5.mono HB.out.size)
      have HE5 := own_below HE.out b5 (Nat.le_refl _)
      obtain ⟨al', w6, hr, ho6, hgr, _⟩ := app32 (l := X j) (by rw [HLX.out]; exact HE5) HB5.size k5 hm1
      have HR := hid hr
      have HE6 := hid ho6
      have HB6 := hid (below_grown HB5 HE5 hgr HB5.size)
      clear hc hx hx64 hyr hy b5 k5 HB5 HE5 hr ho6 hgr hm1 hn44
      have hw := wrapJ hlt hn14
      have hwa := HNW.out.1
      have hwb := HNW.out.2.1
      clear hn14
      go_wp2_with fail
      refine (HPX.out _).mono ?_
      rintro _ x9 ⟨rfl, hx9⟩
      subst hx9
      go_wp2_with (at_builtin; refine Hid.out ?_)
      refine (show Hid _ from ?_)
      refine wpList_app rfl _ _ 32 rfl (.slice ob j c) (.slice (some ⟨S5, 0, none⟩) 1 1) al' w6 (by go_simp) (by go_simp) (HR.out _) ?_
      go_wp2
      go_roundw
      case rel =>
        refine ⟨j + 1, a + 1 + y, by go_num, by go_num, hlt, HXS2.out.2.symm, HZ, (by rw [HXS2.out.1, List.length_append, HLX.out]; rfl : (X (j + 1)).length = j + 1), ?_, HB6⟩
        rw [HXS2.out.1]
        exact HE6
      case measure => exact meas (by go_num) j1
    · obtain rfl : j = n := by omega
      rw [HXN.out] at HGS
      obtain ⟨w5, hw5⟩ : ∃ x, wr.setCell ⟨S0, 7, none⟩ (.slice ob j c) = x := ⟨_, rfl⟩
      have hlen : (nearL o.procs).length = j := by rw [nearL_len, HN.out]
      obtain ⟨on, hon⟩ : ∃ on, on = nearO o ob c := ⟨_, rfl⟩
      have hA : opA on = #[.bool o.other, .bool o.near, .bool o.none, .int .i64 o.what, .int .i64 P3, .int .i64 V4, .int .i64 C6, .slice ob j c, .string ⟨o.args.toArray⟩] := by
        rw [hon]
        show #[_, _, _, _, Value.int .i64 (pickP o.prog 3), .int .i64 (pickP o.vers 4), .int .i64 (pickP o.proc 6), .slice ob (nearL o.procs).length c, _] = _
        rw [HPV.out.1, HPV.out.2.1, HPV.out.2.2, hlen]
        rfl
      have k5 : w5.heap[S0]? = some (.cells (opA on) 34) := by rw [hA, ← hw5]; unfold World.setCell; simp [Array.getElem?_modify, HK4r.out]
      have r5 : w5.heap[S1]? = some (.cells op0 34) := by
        rw [← hw5, Below.heap_setCell _ _ _ _ (show S1 ≠ S0 from HNE.out)]
        exact (HB.out.block S1 (Array.getElem?_eq_some_iff.1 HR4.out).1).trans HR4.out
      have f7 := op_frozen HK4r.out 7
      have B5 : Below w.heap.size w w5 := by rw [← hw5]; exact below_set HBw.out (Nat.le_of_eq hS0) _ _
      rw [hA] at k5
      have q0 : w5.cell? ⟨S0, 0, none⟩ = some (.bool o.other) := by unfold World.cell?; rw [k5]; rfl
      have q1 : w5.cell? ⟨S0, 1, none⟩ = some (.bool o.near) := by unfold World.cell?; rw [k5]; rfl
      have q2 : w5.cell? ⟨S0, 2, none⟩ = some (.bool o.none) := by unfold World.cell?; rw [k5]; rfl
      have q3 : w5.cell? ⟨S0, 3, none⟩ = some (.int .i64 o.what) := by unfold World.cell?; rw [k5]; rfl
      have q4 : w5.cell? ⟨S0, 4, none⟩ = some (.int .i64 P3) := by unfold World.cell?; rw [k5]; rfl
      have q5 : w5.cell? ⟨S0, 5, none⟩ = some (.int .i64 V4) := by unfold World.cell?; rw [k5]; rfl
      have q6 : w5.cell? ⟨S0, 6, none⟩ = some (.int .i64 C6) := by unfold World.cell?; rw [k5]; rfl
      have q7 : w5.cell? ⟨S0, 7, none⟩ = some (.slice ob j c) := by unfold World.cell?; rw [k5]; rfl
      have q8 : w5.cell? ⟨S0, 8, none⟩ = some (.string ⟨o.args.toArray⟩) := by unfold World.cell?; rw [k5]; rfl
      obtain ⟨v1, v2, v3, v4, v5, v6, v7, v8, v9, ⟨g1, g2, g3, g4, g5, g6, g7, g8, g9⟩, ⟨m0, m1, m2, m3, m4, m5, m6, m7, m8⟩, ⟨n0, n1, n2, n3, n4, n5, n6, n7, n8⟩, l9, bb9, ss9⟩ := over9 w5 34 _ _ _ _ _ _ _ _ _ (.bool o.other) (.bool o.near) (.bool o.none) (.int .i64 o.what) (.int .i64 P3) (.int .i64 V4) (.int .i64 C6) (.slice ob j c) (.string ⟨o.args.toArray⟩) S1 r5
      have hS01 : w.heap.size ≤ S1 := by rw [← hS1]; exact (by rw [← hw0]; simp)
      have HF : Hid (GsN v9 w.heap.size ob (nearL o.procs) ∧ Below w.heap.size w v9) := by
        refine ⟨fun h0 => ?_, bb9 _ _ B5 hS01⟩
        obtain ⟨q, off, a1, a2, a3, a4⟩ := HGS.out h0
        have e9 : v9.heap[q]? = wr.heap[q]? := by
          have hq4 : S1 < w4.heap.size := (Array.getElem?_eq_some_iff.1 HR4.out).1
          have hq0 : S0 < w4.heap.size := (Array.getElem?_eq_some_iff.1 HK4.out).1
          have t1 := (bb9 (S1) w5 (Below.refl _ _) (Nat.le_refl _))
          rw [← g9, Below.heap_setCell _ _ _ _ (show q ≠ S1 by omega), ← g8, Below.heap_setCell _ _ _ _ (show q ≠ S1 by omega), ← g7, Below.heap_setCell _ _ _ _ (show q ≠ S1 by omega), ← g6, Below.heap_setCell _ _ _ _ (show q ≠ S1 by omega), ← g5, Below.heap_setCell _ _ _ _ (show q ≠ S1 by omega), ← g4, Below.heap_setCell _ _ _ _ (show q ≠ S1 by omega), ← g3, Below.heap_setCell _ _ _ _ (show q ≠ S1 by omega), ← g2, Below.heap_setCell _ _ _ _ (show q ≠ S1 by omega), ← g1, Below.heap_setCell _ _ _ _ (show q ≠ S1 by omega), ← hw5, Below.heap_setCell _ _ _ _ (show q ≠ S0 by omega)]
        have z5 : w5.heap.size = wr.heap.size := by rw [← hw5]; simp [World.setCell]
        exact ⟨q, off, a1, Nat.le_trans HB4.out.size a2, by rw [ss9, z5]; exact a3, fun i hi => (cell_of_block e9).trans (a4 i hi)⟩
      have HV9 := hid l9
      have HAN := hid (And.intro hon hA)
      clear bb9 l9 ss9 r5 k5 B5 hon hA hlen hS01
      have y0 : v9.cell? ⟨S1, 0, none⟩ = some (.bool o.other) := by unfold World.cell?; rw [HV9.out]; rfl
      have y1 : v9.cell? ⟨S1, 1, none⟩ = some (.bool o.near) := by unfold World.cell?; rw [HV9.out]; rfl
      have y2 : v9.cell? ⟨S1, 2, none⟩ = some (.bool o.none) := by unfold World.cell?; rw [HV9.out]; rfl
      have y3 : v9.cell? ⟨S1, 3, none⟩ = some (.int .i64 o.what) := by unfold World.cell?; rw [HV9.out]; rfl
      have y4 : v9.cell? ⟨S1, 4, none⟩ = some (.int .i64 P3) := by unfold World.cell?; rw [HV9.out]; rfl
      have y5 : v9.cell? ⟨S1, 5, none⟩ = some (.int .i64 V4) := by unfold World.cell?; rw [HV9.out]; rfl
      have y6 : v9.cell? ⟨S1, 6, none⟩ = some (.int .i64 C6) := by unfold World.cell?; rw [HV9.out]; rfl
      have y7 : v9.cell? ⟨S1, 7, none⟩ = some (.slice ob j c) := by unfold World.cell?; rw [HV9.out]; rfl
      have y8 : v9.cell? ⟨S1, 8, none⟩ = some (.string ⟨o.args.toArray⟩) := by unfold World.cell?; rw [HV9.out]; rfl
      go_wp2
      refine bodyPost_ret (v := .agg #[.bool o.other, .bool o.near, .bool o.none, .int .i64 o.what, .int .i64 P3, .int .i64 V4, .int .i64 C6, .slice ob j c, .string ⟨o.args.toArray⟩]) (by simp [results, Try.results7, go_sem, y0, y1, y2, y3, y4, y5, y6, y7, y8]) rfl ?_
      exact ⟨ob, c, by rw [← HAN.out.1, HAN.out.2], HF.out⟩
end Go.Proofs.Ytcpjihaicmlmjaa
