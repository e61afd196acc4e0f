/- Services: ServicePlays. -/
import Derived.Test.YtcpjihaicmlmjaaPTh
namespace Go.Proofs.Ytcpjihaicmlmjaa
open Go.RowKit
theorem bls26 (w : World) (a c : Nat) : (Instr.buildSlice 26 2 #[(0, ptr a), (1, ptr c)]).run Try.prog w = .ok (.slice (some ⟨w.heap.size, 0, none⟩) 2 2) (w.alloc (.cells #[ptr a, ptr c] 24)) := by kernel_rfl
theorem bls31 (w : World) (a c : Nat) : (Instr.buildSlice 31 2 #[(0, ptr a), (1, ptr c)]).run Try.prog w = .ok (.slice (some ⟨w.heap.size, 0, none⟩) 2 2) (w.alloc (.cells #[ptr a, ptr c] 27)) := by kernel_rfl
theorem bld30 (w : World) : (Instr.build 30 #[]).run Try.prog w = .ok (.agg #[.slice none 0 0]) w := by kernel_rfl
set_option maxRecDepth 8000 in
set_option maxHeartbeats 20000000 in
theorem plays_any (so : Option Addr) (sb off n sc : Nat) (O : Nat → OpR) (W : World) (hso : 0 < n → so = some ⟨sb, off, none⟩) (hO : OpsAt W sb off n O) (hlt : 0 < n → sb < W.heap.size) (hn : n ≤ 100000000000000) :
    Calls Try.prog 3 #[.slice so n sc] W fun e w' => e = .returned (.bool true) ∧ Below W.heap.size W w' := by
  have HO := hid hO
  have HSO := hid (And.intro hso hlt)
  have HNN := hid hn
  have HKN := hid (known_any W)
  have hb26 := bls26
  have hb31 := bls31
  have hb30 := bld30
  clear hO hso hlt hn
  go_enter Try.func3, Try.ntmps3
  go_wp2_with fail
  refine HKN.out.mono ?_
  rintro _ w1 ⟨rfl, hb1⟩
  obtain ⟨b0, hb0⟩ : ∃ x, w1.heap.size = x := ⟨_, rfl⟩
  obtain ⟨w2, hw2⟩ : ∃ x, w1.alloc (.cells #[.slice none 0 0] 52) = x := ⟨_, rfl⟩
  obtain ⟨b1, hb1'⟩ : ∃ x, w2.heap.size = x := ⟨_, rfl⟩
  obtain ⟨w3, hw3⟩ : ∃ x, w2.alloc (.cells #[.slice none 0 0] 52) = x := ⟨_, rfl⟩
  obtain ⟨lb, hlb⟩ : ∃ x, w3.heap.size = x := ⟨_, rfl⟩
  obtain ⟨w4, hw4⟩ : ∃ x, w3.alloc (.cells #[ptr b0, ptr b1] 24) = x := ⟨_, rfl⟩
  obtain ⟨q0, hq0⟩ : ∃ x, w4.heap.size = x := ⟨_, rfl⟩
  obtain ⟨w5, hw5⟩ : ∃ x, w4.alloc (.cells #[.slice none 0 0] 30) = x := ⟨_, rfl⟩
  obtain ⟨q1, hq1⟩ : ∃ x, w5.heap.size = x := ⟨_, rfl⟩
  obtain ⟨w6, hw6⟩ : ∃ x, w5.alloc (.cells #[.slice none 0 0] 30) = x := ⟨_, rfl⟩
  obtain ⟨xb, hxb⟩ : ∃ x, w6.heap.size = x := ⟨_, rfl⟩
  obtain ⟨w7, hw7⟩ : ∃ x, w6.alloc (.cells #[ptr q0, ptr q1] 27) = x := ⟨_, rfl⟩
  have HST : Hid (SX W w7 (fun n => if n = true then b1 else b0) (fun n => if n = true then q1 else q0) lb xb) := by
    have a1 : BS W w1 (fun _ => 0) := ⟨hb1, fun _ _ => rfl⟩
    have m2 := Mv.alloc w1 (fun _ => 0) (fun _ => 1) (.cells #[.slice none 0 0] 52)
    have p2 := PR.new (fun _ => 0) w1 1
    rw [hw2] at m2 p2
    rw [hb0] at p2
    have m3 := Mv.alloc w2 (ext w1 (fun _ => 0) (fun _ => 1)) (fun _ => 2) (.cells #[.slice none 0 0] 52)
    have p3 := PR.new (ext w1 (fun _ => 0) (fun _ => 1)) w2 2
    rw [hw3] at m3 p3
    rw [hb1'] at p3
    obtain ⟨K3, hK3⟩ : ∃ K3, ext w2 (ext w1 (fun _ => 0) (fun _ => 1)) (fun _ => 2) = K3 := ⟨_, rfl⟩
    rw [hK3] at m3 p3
    have m4 := Mv.alloc w3 K3 (fun _ => 7) (.cells #[ptr b0, ptr b1] 24)
    have p4 := TB.new w3 K3 (fun _ => 7) (.cells #[ptr b0, ptr b1] 24) (t := 7) rfl
    rw [hw4] at m4 p4
    rw [hlb] at p4
    obtain ⟨K4, hK4⟩ : ∃ K4, ext w3 K3 (fun _ => 7) = K4 := ⟨_, rfl⟩
    rw [hK4] at m4 p4
    have m5 := Mv.alloc w4 K4 (fun _ => 3) (.cells #[.slice none 0 0] 30)
    have p5 := RR.new K4 w4 3 13
    rw [hw5] at m5 p5
    rw [hq0] at p5
    obtain ⟨K5, hK5⟩ : ∃ K5, ext w4 K4 (fun _ => 3) = K5 := ⟨_, rfl⟩
    rw [hK5] at m5 p5
    have m6 := Mv.alloc w5 K5 (fun _ => 4) (.cells #[.slice none 0 0] 30)
    have p6 := RR.new K5 w5 4 14
    rw [hw6] at m6 p6
    rw [hq1] at p6
    obtain ⟨K6, hK6⟩ : ∃ K6, ext w5 K5 (fun _ => 4) = K6 := ⟨_, rfl⟩
    rw [hK6] at m6 p6
    have m7 := Mv.alloc w6 K6 (fun _ => 7) (.cells #[ptr q0, ptr q1] 27)
    have p7 := TB.new w6 K6 (fun _ => 7) (.cells #[ptr q0, ptr q1] 27) (t := 7) rfl
    rw [hw7] at m7 p7
    rw [hxb] at p7
    have m37 := ((m4.trans m5).trans m6).trans m7
    have m27 := m3.trans m37
    refine ⟨_, fun _ => none, fun _ => 0, fun _ => [], fun _ => [], fun _ => .slice none 0 0, fun n => ?_, fun n => ?_, fun _ => rfl, ((p4.mv m5 (fun h => h)).mv m6 (fun h => h)).mv m7 (fun h => h), p7, (a1.mv m2 (fun h => h)).mv m27 (fun h => h)⟩
    · cases n
      · exact p2.mv m27 (fun h => h) (fun h => h)
      · exact p3.mv m37 (fun h => h) (fun h => h)
    · cases n
      · exact (p5.mv m6 (fun h => h) (fun h => h) (fun h => h)).mv m7 (fun h => h) (fun h => h) (fun h => h)
      · exact p6.mv m7 (fun h => h) (fun h => h) (fun h => h)
  obtain ⟨b, hbf⟩ : ∃ b : Bool → Nat, b = fun n => if n = true then b1 else b0 := ⟨_, rfl⟩
  obtain ⟨q, hqf⟩ : ∃ q : Bool → Nat, q = fun n => if n = true then q1 else q0 := ⟨_, rfl⟩
  have hbb : b0 = b false ∧ b1 = b true := by rw [hbf]; exact ⟨rfl, rfl⟩
  have hqq : q0 = q false ∧ q1 = q true := by rw [hqf]; exact ⟨rfl, rfl⟩
  rw [← hbf, ← hqf] at HST
  have HN1 := hid (new_any w1)
  have HN2 := hid (new_any w2)
  rw [hw2, hb0] at HN1
  rw [hw3, hb1'] at HN2
  have l0 : w7.cell? ⟨lb, 0, none⟩ = some (ptr b0) := by rw [hbb.1]; obtain ⟨K, oa, cap, A, L, v, hh⟩ := HST.out; exact hh.lc.1
  have l1 : w7.cell? ⟨lb, 1, none⟩ = some (ptr b1) := by rw [hbb.2]; obtain ⟨K, oa, cap, A, L, v, hh⟩ := HST.out; exact hh.lc.2.1
  clear hb1 HKN hbf hqf hbb hqq
  go_wp2_with fail
  refine HN1.out.mono ?_
  rintro _ x2 ⟨rfl, hx2⟩
  subst hx2
  go_wp2_with fail
  refine HN2.out.mono ?_
  rintro _ x3 ⟨rfl, hx3⟩
  subst hx3
  clear HN1 HN2
  go_wp2_with fail
  clear hb26 hb31 hb30
  go_loopw [6] (fun ix wr => ∃ (i : Nat), ix = .int .i64 i ∧ i ≤ n ∧ Hid (SX W wr b q lb xb)) (fun ix _ => n - (intOf ix).toNat)
  case atStart => exact ⟨0, rfl, by omega, HST⟩
  case round =>
    obtain ⟨i, rfl, hi, HX⟩ := hrel
    clear HST l0 l1
    by_cases hlt : i < n
    · have hso := HSO.out.1 (by omega)
      have hsb := HSO.out.2 (by omega)
      have HBE : Hid (Below W.heap.size W wr) := by obtain ⟨K, oa, cap, A, L, v, hh⟩ := HX.out; exact hh.bs.be
      obtain ⟨o, ho⟩ : ∃ o, O i = o := ⟨_, rfl⟩
      have hc := fun k hk => (cell_of_block (k := off + i * 9 + k) (HBE.out.block sb hsb)).trans (HO.out.c i hlt k hk)
      have HGO := hid (HO.out.g i hlt)
      have HI := hid (And.intro (HO.out.i64 i hlt) (And.intro (HO.out.n64 i hlt) (HO.out.len i hlt)))
      rw [ho] at hc HGO HI
      have d0 : wr.cell? ⟨sb, off + i * 9, none⟩ = some (.bool o.other) := hc 0 (by omega)
      have d1 : wr.cell? ⟨sb, off + i * 9 + 1, none⟩ = some (.bool o.near) := hc 1 (by omega)
      have d2 : wr.cell? ⟨sb, off + i * 9 + 2, none⟩ = some (.bool o.none) := hc 2 (by omega)
      have d3 : wr.cell? ⟨sb, off + i * 9 + 3, none⟩ = some (.int .i64 o.what) := hc 3 (by omega)
      have d4 : wr.cell? ⟨sb, off + i * 9 + 4, none⟩ = some (.int .i64 o.prog) := hc 4 (by omega)
      have d5 : wr.cell? ⟨sb, off + i * 9 + 5, none⟩ = some (.int .i64 o.vers) := hc 5 (by omega)
      have d6 : wr.cell? ⟨sb, off + i * 9 + 6, none⟩ = some (.int .i64 o.proc) := hc 6 (by omega)
      have d7 : wr.cell? ⟨sb, off + i * 9 + 7, none⟩ = some (.slice o.oa o.procs.length o.cap) := hc 7 (by omega)
      have d8 : wr.cell? ⟨sb, off + i * 9 + 8, none⟩ = some (.string ⟨o.args.toArray⟩) := hc 8 (by omega)
      subst hso
      have i0 : (0 : Int) ≤ (i : Int) := by omega
      have i1 : (i : Int) < (n : Int) := by omega
      have HWJ := hid (wrapJ hlt HNN.out)
      obtain ⟨S, hS⟩ : ∃ S, wr.heap.size = S := ⟨_, rfl⟩
      obtain ⟨v0, hv0⟩ : ∃ x, wr.alloc (.cells op0 34) = x := ⟨_, rfl⟩
      have r0 : v0.heap[S]? = some (.cells op0 34) := by rw [← hv0, ← hS]; exact (MapKept.heap_alloc wr _).1
      obtain ⟨v1, v2, v3, v4, v5, v6, v7, v8, v9, ⟨g1, g2, g3, g4, g5, g6, g7, g8, g9⟩, ⟨m0, m1, m2, m3, m4, m5, m6, m7, m8⟩, ⟨n0, n1, n2, n3, n4, n5, n6, n7, n8⟩, l9, bb9, ss9⟩ := over9 v0 34 _ _ _ _ _ _ _ _ _ (.bool o.other) (.bool o.near) (.bool o.none) (.int .i64 o.what) (.int .i64 o.prog) (.int .i64 o.vers) (.int .i64 o.proc) (.slice o.oa o.procs.length o.cap) (.string ⟨o.args.toArray⟩) S r0
      have HZ : Hid (ST W v9 b q lb xb S o) := by
        obtain ⟨K, oa, cap, A, L, v, hh⟩ := HX.out
        have ma := Mv.alloc wr K (fun _ => 11) (.cells op0 34)
        rw [hv0] at ma
        have hk : ext wr K (fun _ => 11) S = 11 := ext_new (by omega)
        have mb := mv9 g1 g2 g3 g4 g5 g6 g7 g8 g9 hk
        exact ⟨_, oa, cap, A, L, v, 0, (hh.mv ma (fun _ h => h.elim)).mv mb (fun x h => by omega), ((GsAt.tag HGO.out hh.bs).mv ma (fun h => h)).mv mb (by omega), .inl rfl, ⟨l9, hk⟩⟩
      clear bb9 ss9 r0 hc ho hsb HX HBE HGO
      obtain ⟨y0, y1, y2, y3, y4, y5, y6, y7, y8⟩ := op_cells l9
      clear l9
      cases hnear : o.near
      · have Y0 := y0
        clear y0
        have HLEN := hid HI.out.2.2
        rw [hnear] at y1
        clear hnear
        cases hoth : o.other
        · rw [hoth] at Y0
          clear hoth
          by_cases hk0 : o.what = 0
          · as_aux_lemma =>
              have hk := hk0
              have hw := HWJ.out
              have w0 : (o.what == 0) = true := by simpa using hk
              clear hk hk0
              have s0 : v9.drew.cell? ⟨lb, 0, none⟩ = some (ptr (b false)) ∧ v9.drew.cell? ⟨xb, 0, none⟩ = some (ptr (q false)) ∧ v9.drew.cell? ⟨S, 0, none⟩ = some (.bool o.other) ∧ v9.drew.cell? ⟨S, 1, none⟩ = some (.bool o.near) ∧ v9.drew.cell? ⟨S, 2, none⟩ = some (.bool o.none) ∧ v9.drew.cell? ⟨S, 3, none⟩ = some (.int .i64 o.what) ∧ v9.drew.cell? ⟨S, 4, none⟩ = some (.int .i64 o.prog) ∧ v9.drew.cell? ⟨S, 5, none⟩ = some (.int .i64 o.vers) ∧ v9.drew.cell? ⟨S, 6, none⟩ = some (.int .i64 o.proc) ∧ v9.drew.cell? ⟨S, 7, none⟩ = some (.slice o.oa o.procs.length o.cap) ∧ v9.drew.cell? ⟨S, 8, none⟩ = some (.string ⟨o.args.toArray⟩) := by
                obtain ⟨a0, a1, a2, a3, a4, a5, a6, a7, a8⟩ := op_cells (HZ.out.drew.cells)
                exact ⟨HZ.out.drew.lc.1, HZ.out.drew.lc.2.2.1, a0, a1, a2, a3, a4, a5, a6, a7, a8⟩
              have HC := hid (HZ.out.drew.offer HLEN.out.1 false)
              go_wp2_with fail
              go_region_held3 (fun w' => w'.cell? ⟨lb, 0, none⟩ = some (ptr (b false)) ∧ w'.cell? ⟨xb, 0, none⟩ = some (ptr (q false)) ∧ w'.cell? ⟨S, 0, none⟩ = some (.bool o.other) ∧ w'.cell? ⟨S, 1, none⟩ = some (.bool o.near) ∧ w'.cell? ⟨S, 2, none⟩ = some (.bool o.none) ∧ w'.cell? ⟨S, 3, none⟩ = some (.int .i64 o.what) ∧ w'.cell? ⟨S, 4, none⟩ = some (.int .i64 o.prog) ∧ w'.cell? ⟨S, 5, none⟩ = some (.int .i64 o.vers) ∧ w'.cell? ⟨S, 6, none⟩ = some (.int .i64 o.proc) ∧ w'.cell? ⟨S, 7, none⟩ = some (.slice o.oa o.procs.length o.cap) ∧ w'.cell? ⟨S, 8, none⟩ = some (.string ⟨o.args.toArray⟩)) (first | exact s0 | exact s7) (first
                | (go_at_call 8
                   refine HC.out.mono ?_
                   rintro _ z1 ⟨rfl, hz1⟩
                   have HZ1 := hid hz1
                   have s7 : z1.cell? ⟨lb, 0, none⟩ = some (ptr (b false)) ∧ z1.cell? ⟨xb, 0, none⟩ = some (ptr (q false)) ∧ z1.cell? ⟨S, 0, none⟩ = some (.bool o.other) ∧ z1.cell? ⟨S, 1, none⟩ = some (.bool o.near) ∧ z1.cell? ⟨S, 2, none⟩ = some (.bool o.none) ∧ z1.cell? ⟨S, 3, none⟩ = some (.int .i64 o.what) ∧ z1.cell? ⟨S, 4, none⟩ = some (.int .i64 o.prog) ∧ z1.cell? ⟨S, 5, none⟩ = some (.int .i64 o.vers) ∧ z1.cell? ⟨S, 6, none⟩ = some (.int .i64 o.proc) ∧ z1.cell? ⟨S, 7, none⟩ = some (.slice o.oa o.procs.length o.cap) ∧ z1.cell? ⟨S, 8, none⟩ = some (.string ⟨o.args.toArray⟩) := by
                     obtain ⟨a0, a1, a2, a3, a4, a5, a6, a7, a8⟩ := op_cells (HZ1.out.cells)
                     exact ⟨HZ1.out.lc.1, HZ1.out.lc.2.2.1, a0, a1, a2, a3, a4, a5, a6, a7, a8⟩
                   clear hz1))
              go_wp2
              go_roundw
              case rel => exact ⟨i + 1, by first | rfl | (rw [hw]; rfl), hlt, HZ1.out.x⟩
              case measure => exact meas (by first | rfl | exact hw) i1
          by_cases hk1 : o.what = 1
          · as_aux_lemma =>
              have hk := hk1
              have hw := HWJ.out
              have w0 : (o.what == 0) = false := by simp; omega
              have w1 : (o.what == 1) = true := by simpa using hk
              clear hk hk0 hk1
              have s0 : v9.drew.cell? ⟨lb, 0, none⟩ = some (ptr (b false)) ∧ v9.drew.cell? ⟨xb, 0, none⟩ = some (ptr (q false)) ∧ v9.drew.cell? ⟨S, 0, none⟩ = some (.bool o.other) ∧ v9.drew.cell? ⟨S, 1, none⟩ = some (.bool o.near) ∧ v9.drew.cell? ⟨S, 2, none⟩ = some (.bool o.none) ∧ v9.drew.cell? ⟨S, 3, none⟩ = some (.int .i64 o.what) ∧ v9.drew.cell? ⟨S, 4, none⟩ = some (.int .i64 o.prog) ∧ v9.drew.cell? ⟨S, 5, none⟩ = some (.int .i64 o.vers) ∧ v9.drew.cell? ⟨S, 6, none⟩ = some (.int .i64 o.proc) ∧ v9.drew.cell? ⟨S, 7, none⟩ = some (.slice o.oa o.procs.length o.cap) ∧ v9.drew.cell? ⟨S, 8, none⟩ = some (.string ⟨o.args.toArray⟩) := by
                obtain ⟨a0, a1, a2, a3, a4, a5, a6, a7, a8⟩ := op_cells (HZ.out.drew.cells)
                exact ⟨HZ.out.drew.lc.1, HZ.out.drew.lc.2.2.1, a0, a1, a2, a3, a4, a5, a6, a7, a8⟩
              have HC := hid (HZ.out.drew.offer HLEN.out.1 false)
              go_wp2_with fail
              go_region_held3 (fun w' => w'.cell? ⟨lb, 0, none⟩ = some (ptr (b false)) ∧ w'.cell? ⟨xb, 0, none⟩ = some (ptr (q false)) ∧ w'.cell? ⟨S, 0, none⟩ = some (.bool o.other) ∧ w'.cell? ⟨S, 1, none⟩ = some (.bool o.near) ∧ w'.cell? ⟨S, 2, none⟩ = some (.bool o.none) ∧ w'.cell? ⟨S, 3, none⟩ = some (.int .i64 o.what) ∧ w'.cell? ⟨S, 4, none⟩ = some (.int .i64 o.prog) ∧ w'.cell? ⟨S, 5, none⟩ = some (.int .i64 o.vers) ∧ w'.cell? ⟨S, 6, none⟩ = some (.int .i64 o.proc) ∧ w'.cell? ⟨S, 7, none⟩ = some (.slice o.oa o.procs.length o.cap) ∧ w'.cell? ⟨S, 8, none⟩ = some (.string ⟨o.args.toArray⟩)) (first | exact s0 | exact s7) (first
                | (go_at_call 8
                   refine HC.out.mono ?_
                   rintro _ z1 ⟨rfl, hz1⟩
                   have HZ1 := hid hz1
                   have s7 : z1.cell? ⟨lb, 0, none⟩ = some (ptr (b false)) ∧ z1.cell? ⟨xb, 0, none⟩ = some (ptr (q false)) ∧ z1.cell? ⟨S, 0, none⟩ = some (.bool o.other) ∧ z1.cell? ⟨S, 1, none⟩ = some (.bool o.near) ∧ z1.cell? ⟨S, 2, none⟩ = some (.bool o.none) ∧ z1.cell? ⟨S, 3, none⟩ = some (.int .i64 o.what) ∧ z1.cell? ⟨S, 4, none⟩ = some (.int .i64 o.prog) ∧ z1.cell? ⟨S, 5, none⟩ = some (.int .i64 o.vers) ∧ z1.cell? ⟨S, 6, none⟩ = some (.int .i64 o.proc) ∧ z1.cell? ⟨S, 7, none⟩ = some (.slice o.oa o.procs.length o.cap) ∧ z1.cell? ⟨S, 8, none⟩ = some (.string ⟨o.args.toArray⟩) := by
                     obtain ⟨a0, a1, a2, a3, a4, a5, a6, a7, a8⟩ := op_cells (HZ1.out.cells)
                     exact ⟨HZ1.out.lc.1, HZ1.out.lc.2.2.1, a0, a1, a2, a3, a4, a5, a6, a7, a8⟩
                   clear hz1))
              go_wp2
              go_roundw
              case rel => exact ⟨i + 1, by first | rfl | (rw [hw]; rfl), hlt, HZ1.out.x⟩
              case measure => exact meas (by first | rfl | exact hw) i1
          by_cases hk2 : o.what = 2
          · as_aux_lemma =>
              have hk := hk2
              have hw := HWJ.out
              have w0 : (o.what == 0) = false := by simp; omega
              have w1 : (o.what == 1) = false := by simp; omega
              have w2' : (o.what == 2) = true := by simpa using hk
              clear hk hk0 hk1 hk2
              have s0 : v9.drew.cell? ⟨lb, 0, none⟩ = some (ptr (b false)) ∧ v9.drew.cell? ⟨xb, 0, none⟩ = some (ptr (q false)) ∧ v9.drew.cell? ⟨S, 0, none⟩ = some (.bool o.other) ∧ v9.drew.cell? ⟨S, 1, none⟩ = some (.bool o.near) ∧ v9.drew.cell? ⟨S, 2, none⟩ = some (.bool o.none) ∧ v9.drew.cell? ⟨S, 3, none⟩ = some (.int .i64 o.what) ∧ v9.drew.cell? ⟨S, 4, none⟩ = some (.int .i64 o.prog) ∧ v9.drew.cell? ⟨S, 5, none⟩ = some (.int .i64 o.vers) ∧ v9.drew.cell? ⟨S, 6, none⟩ = some (.int .i64 o.proc) ∧ v9.drew.cell? ⟨S, 7, none⟩ = some (.slice o.oa o.procs.length o.cap) ∧ v9.drew.cell? ⟨S, 8, none⟩ = some (.string ⟨o.args.toArray⟩) := by
                obtain ⟨a0, a1, a2, a3, a4, a5, a6, a7, a8⟩ := op_cells (HZ.out.drew.cells)
                exact ⟨HZ.out.drew.lc.1, HZ.out.drew.lc.2.2.1, a0, a1, a2, a3, a4, a5, a6, a7, a8⟩
              obtain ⟨R, hR1, hR2⟩ := HZ.out.drew.find false
              have HR1 := hid hR1
              have HR2 := hid hR2
              clear hR1 hR2
              obtain ⟨R0, R1, R2⟩ := R
              go_wp2_with fail
              go_region_held3 (fun w' => w'.cell? ⟨lb, 0, none⟩ = some (ptr (b false)) ∧ w'.cell? ⟨xb, 0, none⟩ = some (ptr (q false)) ∧ w'.cell? ⟨S, 0, none⟩ = some (.bool o.other) ∧ w'.cell? ⟨S, 1, none⟩ = some (.bool o.near) ∧ w'.cell? ⟨S, 2, none⟩ = some (.bool o.none) ∧ w'.cell? ⟨S, 3, none⟩ = some (.int .i64 o.what) ∧ w'.cell? ⟨S, 4, none⟩ = some (.int .i64 o.prog) ∧ w'.cell? ⟨S, 5, none⟩ = some (.int .i64 o.vers) ∧ w'.cell? ⟨S, 6, none⟩ = some (.int .i64 o.proc) ∧ w'.cell? ⟨S, 7, none⟩ = some (.slice o.oa o.procs.length o.cap) ∧ w'.cell? ⟨S, 8, none⟩ = some (.string ⟨o.args.toArray⟩)) (first | exact s0 | exact s7) (first
                | (go_at_call 9
                   refine (HR1.out _ (Below.refl _ _)).mono ?_
                   rintro _ z1 ⟨rfl, hz1⟩
                   have HZ1 := hid (HZ.out.drew.below hz1)
                   have HBZ1 := hid hz1
                   have s7 : z1.cell? ⟨lb, 0, none⟩ = some (ptr (b false)) ∧ z1.cell? ⟨xb, 0, none⟩ = some (ptr (q false)) ∧ z1.cell? ⟨S, 0, none⟩ = some (.bool o.other) ∧ z1.cell? ⟨S, 1, none⟩ = some (.bool o.near) ∧ z1.cell? ⟨S, 2, none⟩ = some (.bool o.none) ∧ z1.cell? ⟨S, 3, none⟩ = some (.int .i64 o.what) ∧ z1.cell? ⟨S, 4, none⟩ = some (.int .i64 o.prog) ∧ z1.cell? ⟨S, 5, none⟩ = some (.int .i64 o.vers) ∧ z1.cell? ⟨S, 6, none⟩ = some (.int .i64 o.proc) ∧ z1.cell? ⟨S, 7, none⟩ = some (.slice o.oa o.procs.length o.cap) ∧ z1.cell? ⟨S, 8, none⟩ = some (.string ⟨o.args.toArray⟩) := by
                     obtain ⟨a0, a1, a2, a3, a4, a5, a6, a7, a8⟩ := op_cells (HZ1.out.cells)
                     exact ⟨HZ1.out.lc.1, HZ1.out.lc.2.2.1, a0, a1, a2, a3, a4, a5, a6, a7, a8⟩
                   clear hz1))
              clear s0
              have t0 : z1.drew.cell? ⟨lb, 0, none⟩ = some (ptr (b false)) ∧ z1.drew.cell? ⟨xb, 0, none⟩ = some (ptr (q false)) ∧ z1.drew.cell? ⟨S, 0, none⟩ = some (.bool o.other) ∧ z1.drew.cell? ⟨S, 1, none⟩ = some (.bool o.near) ∧ z1.drew.cell? ⟨S, 2, none⟩ = some (.bool o.none) ∧ z1.drew.cell? ⟨S, 3, none⟩ = some (.int .i64 o.what) ∧ z1.drew.cell? ⟨S, 4, none⟩ = some (.int .i64 o.prog) ∧ z1.drew.cell? ⟨S, 5, none⟩ = some (.int .i64 o.vers) ∧ z1.drew.cell? ⟨S, 6, none⟩ = some (.int .i64 o.proc) ∧ z1.drew.cell? ⟨S, 7, none⟩ = some (.slice o.oa o.procs.length o.cap) ∧ z1.drew.cell? ⟨S, 8, none⟩ = some (.string ⟨o.args.toArray⟩) := by
                obtain ⟨a0, a1, a2, a3, a4, a5, a6, a7, a8⟩ := op_cells (HZ1.out.drew.cells)
                exact ⟨HZ1.out.drew.lc.1, HZ1.out.drew.lc.2.2.1, a0, a1, a2, a3, a4, a5, a6, a7, a8⟩
              have HBD : Hid (Below v9.drew.heap.size v9.drew z1.drew) := ⟨HBZ1.out.os, HBZ1.out.tape, HBZ1.out.output, HBZ1.out.size, HBZ1.out.block⟩
              go_wp2_with fail
              go_region_held3 (fun w' => w'.cell? ⟨lb, 0, none⟩ = some (ptr (b false)) ∧ w'.cell? ⟨xb, 0, none⟩ = some (ptr (q false)) ∧ w'.cell? ⟨S, 0, none⟩ = some (.bool o.other) ∧ w'.cell? ⟨S, 1, none⟩ = some (.bool o.near) ∧ w'.cell? ⟨S, 2, none⟩ = some (.bool o.none) ∧ w'.cell? ⟨S, 3, none⟩ = some (.int .i64 o.what) ∧ w'.cell? ⟨S, 4, none⟩ = some (.int .i64 o.prog) ∧ w'.cell? ⟨S, 5, none⟩ = some (.int .i64 o.vers) ∧ w'.cell? ⟨S, 6, none⟩ = some (.int .i64 o.proc) ∧ w'.cell? ⟨S, 7, none⟩ = some (.slice o.oa o.procs.length o.cap) ∧ w'.cell? ⟨S, 8, none⟩ = some (.string ⟨o.args.toArray⟩)) (first | exact t0 | exact t7) (first
                | (go_at_call 10
                   refine (HR2.out _ HBD.out).mono ?_
                   rintro _ z2 ⟨rfl, hz2⟩
                   have HZ2 := hid (HZ1.out.drew.below hz2)
                   have t7 : z2.cell? ⟨lb, 0, none⟩ = some (ptr (b false)) ∧ z2.cell? ⟨xb, 0, none⟩ = some (ptr (q false)) ∧ z2.cell? ⟨S, 0, none⟩ = some (.bool o.other) ∧ z2.cell? ⟨S, 1, none⟩ = some (.bool o.near) ∧ z2.cell? ⟨S, 2, none⟩ = some (.bool o.none) ∧ z2.cell? ⟨S, 3, none⟩ = some (.int .i64 o.what) ∧ z2.cell? ⟨S, 4, none⟩ = some (.int .i64 o.prog) ∧ z2.cell? ⟨S, 5, none⟩ = some (.int .i64 o.vers) ∧ z2.cell? ⟨S, 6, none⟩ = some (.int .i64 o.proc) ∧ z2.cell? ⟨S, 7, none⟩ = some (.slice o.oa o.procs.length o.cap) ∧ z2.cell? ⟨S, 8, none⟩ = some (.string ⟨o.args.toArray⟩) := by
                     obtain ⟨a0, a1, a2, a3, a4, a5, a6, a7, a8⟩ := op_cells (HZ2.out.cells)
                     exact ⟨HZ2.out.lc.1, HZ2.out.lc.2.2.1, a0, a1, a2, a3, a4, a5, a6, a7, a8⟩
                   clear hz2))
              go_wp2
              go_roundw
              case rel => exact ⟨i + 1, by first | rfl | (rw [hw]; rfl), hlt, HZ2.out.x⟩
              case measure => exact meas (by first | rfl | exact hw) i1
          by_cases hk3 : o.what = 3
          · as_aux_lemma =>
              have hk := hk3
              have hw := HWJ.out
              have w0 : (o.what == 0) = false := by simp; omega
              have w1 : (o.what == 1) = false := by simp; omega
              have w2' : (o.what == 2) = false := by simp; omega
              have w3' : (o.what == 3) = true := by simpa using hk
              clear hk hk0 hk1 hk2 hk3
              have s0 : v9.drew.cell? ⟨lb, 0, none⟩ = some (ptr (b false)) ∧ v9.drew.cell? ⟨xb, 0, none⟩ = some (ptr (q false)) ∧ v9.drew.cell? ⟨S, 0, none⟩ = some (.bool o.other) ∧ v9.drew.cell? ⟨S, 1, none⟩ = some (.bool o.near) ∧ v9.drew.cell? ⟨S, 2, none⟩ = some (.bool o.none) ∧ v9.drew.cell? ⟨S, 3, none⟩ = some (.int .i64 o.what) ∧ v9.drew.cell? ⟨S, 4, none⟩ = some (.int .i64 o.prog) ∧ v9.drew.cell? ⟨S, 5, none⟩ = some (.int .i64 o.vers) ∧ v9.drew.cell? ⟨S, 6, none⟩ = some (.int .i64 o.proc) ∧ v9.drew.cell? ⟨S, 7, none⟩ = some (.slice o.oa o.procs.length o.cap) ∧ v9.drew.cell? ⟨S, 8, none⟩ = some (.string ⟨o.args.toArray⟩) := by
                obtain ⟨a0, a1, a2, a3, a4, a5, a6, a7, a8⟩ := op_cells (HZ.out.drew.cells)
                exact ⟨HZ.out.drew.lc.1, HZ.out.drew.lc.2.2.1, a0, a1, a2, a3, a4, a5, a6, a7, a8⟩
              obtain ⟨R, hR1, hR2⟩ := HZ.out.drew.find false
              have HR1 := hid hR1
              have HR2 := hid hR2
              clear hR1 hR2
              obtain ⟨R0, R1, R2⟩ := R
              go_wp2_with fail
              go_region_held3 (fun w' => w'.cell? ⟨lb, 0, none⟩ = some (ptr (b false)) ∧ w'.cell? ⟨xb, 0, none⟩ = some (ptr (q false)) ∧ w'.cell? ⟨S, 0, none⟩ = some (.bool o.other) ∧ w'.cell? ⟨S, 1, none⟩ = some (.bool o.near) ∧ w'.cell? ⟨S, 2, none⟩ = some (.bool o.none) ∧ w'.cell? ⟨S, 3, none⟩ = some (.int .i64 o.what) ∧ w'.cell? ⟨S, 4, none⟩ = some (.int .i64 o.prog) ∧ w'.cell? ⟨S, 5, none⟩ = some (.int .i64 o.vers) ∧ w'.cell? ⟨S, 6, none⟩ = some (.int .i64 o.proc) ∧ w'.cell? ⟨S, 7, none⟩ = some (.slice o.oa o.procs.length o.cap) ∧ w'.cell? ⟨S, 8, none⟩ = some (.string ⟨o.args.toArray⟩)) (first | exact s0 | exact s7) (first
                | (go_at_call 9
                   refine (HR1.out _ (Below.refl _ _)).mono ?_
                   rintro _ z1 ⟨rfl, hz1⟩
                   have HZ1 := hid (HZ.out.drew.below hz1)
                   have HBZ1 := hid hz1
                   have s7 : z1.cell? ⟨lb, 0, none⟩ = some (ptr (b false)) ∧ z1.cell? ⟨xb, 0, none⟩ = some (ptr (q false)) ∧ z1.cell? ⟨S, 0, none⟩ = some (.bool o.other) ∧ z1.cell? ⟨S, 1, none⟩ = some (.bool o.near) ∧ z1.cell? ⟨S, 2, none⟩ = some (.bool o.none) ∧ z1.cell? ⟨S, 3, none⟩ = some (.int .i64 o.what) ∧ z1.cell? ⟨S, 4, none⟩ = some (.int .i64 o.prog) ∧ z1.cell? ⟨S, 5, none⟩ = some (.int .i64 o.vers) ∧ z1.cell? ⟨S, 6, none⟩ = some (.int .i64 o.proc) ∧ z1.cell? ⟨S, 7, none⟩ = some (.slice o.oa o.procs.length o.cap) ∧ z1.cell? ⟨S, 8, none⟩ = some (.string ⟨o.args.toArray⟩) := by
                     obtain ⟨a0, a1, a2, a3, a4, a5, a6, a7, a8⟩ := op_cells (HZ1.out.cells)
                     exact ⟨HZ1.out.lc.1, HZ1.out.lc.2.2.1, a0, a1, a2, a3, a4, a5, a6, a7, a8⟩
                   clear hz1))
              clear s0
              have t0 : z1.drew.cell? ⟨lb, 0, none⟩ = some (ptr (b false)) ∧ z1.drew.cell? ⟨xb, 0, none⟩ = some (ptr (q false)) ∧ z1.drew.cell? ⟨S, 0, none⟩ = some (.bool o.other) ∧ z1.drew.cell? ⟨S, 1, none⟩ = some (.bool o.near) ∧ z1.drew.cell? ⟨S, 2, none⟩ = some (.bool o.none) ∧ z1.drew.cell? ⟨S, 3, none⟩ = some (.int .i64 o.what) ∧ z1.drew.cell? ⟨S, 4, none⟩ = some (.int .i64 o.prog) ∧ z1.drew.cell? ⟨S, 5, none⟩ = some (.int .i64 o.vers) ∧ z1.drew.cell? ⟨S, 6, none⟩ = some (.int .i64 o.proc) ∧ z1.drew.cell? ⟨S, 7, none⟩ = some (.slice o.oa o.procs.length o.cap) ∧ z1.drew.cell? ⟨S, 8, none⟩ = some (.string ⟨o.args.toArray⟩) := by
                obtain ⟨a0, a1, a2, a3, a4, a5, a6, a7, a8⟩ := op_cells (HZ1.out.drew.cells)
                exact ⟨HZ1.out.drew.lc.1, HZ1.out.drew.lc.2.2.1, a0, a1, a2, a3, a4, a5, a6, a7, a8⟩
              have HBD : Hid (Below v9.drew.heap.size v9.drew z1.drew) := ⟨HBZ1.out.os, HBZ1.out.tape, HBZ1.out.output, HBZ1.out.size, HBZ1.out.block⟩
              go_wp2_with fail
              go_region_held3 (fun w' => w'.cell? ⟨lb, 0, none⟩ = some (ptr (b false)) ∧ w'.cell? ⟨xb, 0, none⟩ = some (ptr (q false)) ∧ w'.cell? ⟨S, 0, none⟩ = some (.bool o.other) ∧ w'.cell? ⟨S, 1, none⟩ = some (.bool o.near) ∧ w'.cell? ⟨S, 2, none⟩ = some (.bool o.none) ∧ w'.cell? ⟨S, 3, none⟩ = some (.int .i64 o.what) ∧ w'.cell? ⟨S, 4, none⟩ = some (.int .i64 o.prog) ∧ w'.cell? ⟨S, 5, none⟩ = some (.int .i64 o.vers) ∧ w'.cell? ⟨S, 6, none⟩ = some (.int .i64 o.proc) ∧ w'.cell? ⟨S, 7, none⟩ = some (.slice o.oa o.procs.length o.cap) ∧ w'.cell? ⟨S, 8, none⟩ = some (.string ⟨o.args.toArray⟩)) (first | exact t0 | exact t7) (first
                | (go_at_call 10
                   refine (HR2.out _ HBD.out).mono ?_
                   rintro _ z2 ⟨rfl, hz2⟩
                   have HZ2 := hid (HZ1.out.drew.below hz2)
                   have t7 : z2.cell? ⟨lb, 0, none⟩ = some (ptr (b false)) ∧ z2.cell? ⟨xb, 0, none⟩ = some (ptr (q false)) ∧ z2.cell? ⟨S, 0, none⟩ = some (.bool o.other) ∧ z2.cell? ⟨S, 1, none⟩ = some (.bool o.near) ∧ z2.cell? ⟨S, 2, none⟩ = some (.bool o.none) ∧ z2.cell? ⟨S, 3, none⟩ = some (.int .i64 o.what) ∧ z2.cell? ⟨S, 4, none⟩ = some (.int .i64 o.prog) ∧ z2.cell? ⟨S, 5, none⟩ = some (.int .i64 o.vers) ∧ z2.cell? ⟨S, 6, none⟩ = some (.int .i64 o.proc) ∧ z2.cell? ⟨S, 7, none⟩ = some (.slice o.oa o.procs.length o.cap) ∧ z2.cell? ⟨S, 8, none⟩ = some (.string ⟨o.args.toArray⟩) := by
                     obtain ⟨a0, a1, a2, a3, a4, a5, a6, a7, a8⟩ := op_cells (HZ2.out.cells)
                     exact ⟨HZ2.out.lc.1, HZ2.out.lc.2.2.1, a0, a1, a2, a3, a4, a5, a6, a7, a8⟩
                   clear hz2))
              go_wp2
              go_roundw
              case rel => exact ⟨i + 1, by first | rfl | (rw [hw]; rfl), hlt, HZ2.out.x⟩
              case measure => exact meas (by first | rfl | exact hw) i1
          as_aux_lemma =>
            have hk := hk3
            have hw := HWJ.out
            have w0 : (o.what == 0) = false := by simp; omega
            have w1 : (o.what == 1) = false := by simp; omega
            have w2' : (o.what == 2) = false := by simp; omega
            have w3' : (o.what == 3) = false := by simp; omega
            clear hk hk0 hk1 hk2 hk3
            have s0 : v9.drew.cell? ⟨lb, 0, none⟩ = some (ptr (b false)) ∧ v9.drew.cell? ⟨xb, 0, none⟩ = some (ptr (q false)) ∧ v9.drew.cell? ⟨S, 0, none⟩ = some (.bool o.other) ∧ v9.drew.cell? ⟨S, 1, none⟩ = some (.bool o.near) ∧ v9.drew.cell? ⟨S, 2, none⟩ = some (.bool o.none) ∧ v9.drew.cell? ⟨S, 3, none⟩ = some (.int .i64 o.what) ∧ v9.drew.cell? ⟨S, 4, none⟩ = some (.int .i64 o.prog) ∧ v9.drew.cell? ⟨S, 5, none⟩ = some (.int .i64 o.vers) ∧ v9.drew.cell? ⟨S, 6, none⟩ = some (.int .i64 o.proc) ∧ v9.drew.cell? ⟨S, 7, none⟩ = some (.slice o.oa o.procs.length o.cap) ∧ v9.drew.cell? ⟨S, 8, none⟩ = some (.string ⟨o.args.toArray⟩) := by
              obtain ⟨a0, a1, a2, a3, a4, a5, a6, a7, a8⟩ := op_cells (HZ.out.drew.cells)
              exact ⟨HZ.out.drew.lc.1, HZ.out.drew.lc.2.2.1, a0, a1, a2, a3, a4, a5, a6, a7, a8⟩
            obtain ⟨R, hR1, hR2⟩ := HZ.out.drew.run HLEN.out.2 false
            have HR1 := hid hR1
            have HR2 := hid hR2
            clear hR1 hR2
            obtain ⟨R0, R1⟩ := R
            go_wp2_with fail
            go_region_held3 (fun w' => w'.cell? ⟨lb, 0, none⟩ = some (ptr (b false)) ∧ w'.cell? ⟨xb, 0, none⟩ = some (ptr (q false)) ∧ w'.cell? ⟨S, 0, none⟩ = some (.bool o.other) ∧ w'.cell? ⟨S, 1, none⟩ = some (.bool o.near) ∧ w'.cell? ⟨S, 2, none⟩ = some (.bool o.none) ∧ w'.cell? ⟨S, 3, none⟩ = some (.int .i64 o.what) ∧ w'.cell? ⟨S, 4, none⟩ = some (.int .i64 o.prog) ∧ w'.cell? ⟨S, 5, none⟩ = some (.int .i64 o.vers) ∧ w'.cell? ⟨S, 6, none⟩ = some (.int .i64 o.proc) ∧ w'.cell? ⟨S, 7, none⟩ = some (.slice o.oa o.procs.length o.cap) ∧ w'.cell? ⟨S, 8, none⟩ = some (.string ⟨o.args.toArray⟩)) (first | exact s0 | exact s7) (first
              | (go_at_call 11
                 refine (HR1.out _ (Below.refl _ _)).mono ?_
                 rintro _ z1 ⟨rfl, hz1⟩
                 have HZ1 := hid (HZ.out.drew.below hz1)
                 have HBZ1 := hid hz1
                 have s7 : z1.cell? ⟨lb, 0, none⟩ = some (ptr (b false)) ∧ z1.cell? ⟨xb, 0, none⟩ = some (ptr (q false)) ∧ z1.cell? ⟨S, 0, none⟩ = some (.bool o.other) ∧ z1.cell? ⟨S, 1, none⟩ = some (.bool o.near) ∧ z1.cell? ⟨S, 2, none⟩ = some (.bool o.none) ∧ z1.cell? ⟨S, 3, none⟩ = some (.int .i64 o.what) ∧ z1.cell? ⟨S, 4, none⟩ = some (.int .i64 o.prog) ∧ z1.cell? ⟨S, 5, none⟩ = some (.int .i64 o.vers) ∧ z1.cell? ⟨S, 6, none⟩ = some (.int .i64 o.proc) ∧ z1.cell? ⟨S, 7, none⟩ = some (.slice o.oa o.procs.length o.cap) ∧ z1.cell? ⟨S, 8, none⟩ = some (.string ⟨o.args.toArray⟩) := by
                   obtain ⟨a0, a1, a2, a3, a4, a5, a6, a7, a8⟩ := op_cells (HZ1.out.cells)
                   exact ⟨HZ1.out.lc.1, HZ1.out.lc.2.2.1, a0, a1, a2, a3, a4, a5, a6, a7, a8⟩
                 clear hz1))
            clear s0
            have t0 : z1.drew.cell? ⟨lb, 0, none⟩ = some (ptr (b false)) ∧ z1.drew.cell? ⟨xb, 0, none⟩ = some (ptr (q false)) ∧ z1.drew.cell? ⟨S, 0, none⟩ = some (.bool o.other) ∧ z1.drew.cell? ⟨S, 1, none⟩ = some (.bool o.near) ∧ z1.drew.cell? ⟨S, 2, none⟩ = some (.bool o.none) ∧ z1.drew.cell? ⟨S, 3, none⟩ = some (.int .i64 o.what) ∧ z1.drew.cell? ⟨S, 4, none⟩ = some (.int .i64 o.prog) ∧ z1.drew.cell? ⟨S, 5, none⟩ = some (.int .i64 o.vers) ∧ z1.drew.cell? ⟨S, 6, none⟩ = some (.int .i64 o.proc) ∧ z1.drew.cell? ⟨S, 7, none⟩ = some (.slice o.oa o.procs.length o.cap) ∧ z1.drew.cell? ⟨S, 8, none⟩ = some (.string ⟨o.args.toArray⟩) := by
              obtain ⟨a0, a1, a2, a3, a4, a5, a6, a7, a8⟩ := op_cells (HZ1.out.drew.cells)
              exact ⟨HZ1.out.drew.lc.1, HZ1.out.drew.lc.2.2.1, a0, a1, a2, a3, a4, a5, a6, a7, a8⟩
            have HBD : Hid (Below v9.drew.heap.size v9.drew z1.drew) := ⟨HBZ1.out.os, HBZ1.out.tape, HBZ1.out.output, HBZ1.out.size, HBZ1.out.block⟩
            go_wp2_with fail
            go_region_held3 (fun w' => w'.cell? ⟨lb, 0, none⟩ = some (ptr (b false)) ∧ w'.cell? ⟨xb, 0, none⟩ = some (ptr (q false)) ∧ w'.cell? ⟨S, 0, none⟩ = some (.bool o.other) ∧ w'.cell? ⟨S, 1, none⟩ = some (.bool o.near) ∧ w'.cell? ⟨S, 2, none⟩ = some (.bool o.none) ∧ w'.cell? ⟨S, 3, none⟩ = some (.int .i64 o.what) ∧ w'.cell? ⟨S, 4, none⟩ = some (.int .i64 o.prog) ∧ w'.cell? ⟨S, 5, none⟩ = some (.int .i64 o.vers) ∧ w'.cell? ⟨S, 6, none⟩ = some (.int .i64 o.proc) ∧ w'.cell? ⟨S, 7, none⟩ = some (.slice o.oa o.procs.length o.cap) ∧ w'.cell? ⟨S, 8, none⟩ = some (.string ⟨o.args.toArray⟩)) (first | exact t0 | exact t7) (first
              | (go_at_call 12
                 refine (HR2.out _ HBD.out).mono ?_
                 rintro _ z2 ⟨rfl, hz2⟩
                 have HZ2 := hid (HZ1.out.drew.below hz2)
                 have t7 : z2.cell? ⟨lb, 0, none⟩ = some (ptr (b false)) ∧ z2.cell? ⟨xb, 0, none⟩ = some (ptr (q false)) ∧ z2.cell? ⟨S, 0, none⟩ = some (.bool o.other) ∧ z2.cell? ⟨S, 1, none⟩ = some (.bool o.near) ∧ z2.cell? ⟨S, 2, none⟩ = some (.bool o.none) ∧ z2.cell? ⟨S, 3, none⟩ = some (.int .i64 o.what) ∧ z2.cell? ⟨S, 4, none⟩ = some (.int .i64 o.prog) ∧ z2.cell? ⟨S, 5, none⟩ = some (.int .i64 o.vers) ∧ z2.cell? ⟨S, 6, none⟩ = some (.int .i64 o.proc) ∧ z2.cell? ⟨S, 7, none⟩ = some (.slice o.oa o.procs.length o.cap) ∧ z2.cell? ⟨S, 8, none⟩ = some (.string ⟨o.args.toArray⟩) := by
                   obtain ⟨a0, a1, a2, a3, a4, a5, a6, a7, a8⟩ := op_cells (HZ2.out.cells)
                   exact ⟨HZ2.out.lc.1, HZ2.out.lc.2.2.1, a0, a1, a2, a3, a4, a5, a6, a7, a8⟩
                 clear hz2))
            go_wp2
            go_roundw
            case rel => exact ⟨i + 1, by first | rfl | (rw [hw]; rfl), hlt, HZ2.out.x⟩
            case measure => exact meas (by first | rfl | exact hw) i1
        · rw [hoth] at Y0
          clear hoth
          by_cases hk0 : o.what = 0
          · as_aux_lemma =>
              have hk := hk0
              have hw := HWJ.out
              have w0 : (o.what == 0) = true := by simpa using hk
              clear hk hk0
              have s0 : v9.drew.cell? ⟨lb, 1, none⟩ = some (ptr (b true)) ∧ v9.drew.cell? ⟨xb, 1, none⟩ = some (ptr (q true)) ∧ v9.drew.cell? ⟨S, 0, none⟩ = some (.bool o.other) ∧ v9.drew.cell? ⟨S, 1, none⟩ = some (.bool o.near) ∧ v9.drew.cell? ⟨S, 2, none⟩ = some (.bool o.none) ∧ v9.drew.cell? ⟨S, 3, none⟩ = some (.int .i64 o.what) ∧ v9.drew.cell? ⟨S, 4, none⟩ = some (.int .i64 o.prog) ∧ v9.drew.cell? ⟨S, 5, none⟩ = some (.int .i64 o.vers) ∧ v9.drew.cell? ⟨S, 6, none⟩ = some (.int .i64 o.proc) ∧ v9.drew.cell? ⟨S, 7, none⟩ = some (.slice o.oa o.procs.length o.cap) ∧ v9.drew.cell? ⟨S, 8, none⟩ = some (.string ⟨o.args.toArray⟩) := by
                obtain ⟨a0, a1, a2, a3, a4, a5, a6, a7, a8⟩ := op_cells (HZ.out.drew.cells)
                exact ⟨HZ.out.drew.lc.2.1, HZ.out.drew.lc.2.2.2, a0, a1, a2, a3, a4, a5, a6, a7, a8⟩
              have HC := hid (HZ.out.drew.offer HLEN.out.1 true)
              go_wp2_with fail
              go_region_held3 (fun w' => w'.cell? ⟨lb, 1, none⟩ = some (ptr (b true)) ∧ w'.cell? ⟨xb, 1, none⟩ = some (ptr (q true)) ∧ w'.cell? ⟨S, 0, none⟩ = some (.bool o.other) ∧ w'.cell? ⟨S, 1, none⟩ = some (.bool o.near) ∧ w'.cell? ⟨S, 2, none⟩ = some (.bool o.none) ∧ w'.cell? ⟨S, 3, none⟩ = some (.int .i64 o.what) ∧ w'.cell? ⟨S, 4, none⟩ = some (.int .i64 o.prog) ∧ w'.cell? ⟨S, 5, none⟩ = some (.int .i64 o.vers) ∧ w'.cell? ⟨S, 6, none⟩ = some (.int .i64 o.proc) ∧ w'.cell? ⟨S, 7, none⟩ = some (.slice o.oa o.procs.length o.cap) ∧ w'.cell? ⟨S, 8, none⟩ = some (.string ⟨o.args.toArray⟩)) (first | exact s0 | exact s7) (first
                | (go_at_call 8
                   refine HC.out.mono ?_
                   rintro _ z1 ⟨rfl, hz1⟩
                   have HZ1 := hid hz1
                   have s7 : z1.cell? ⟨lb, 1, none⟩ = some (ptr (b true)) ∧ z1.cell? ⟨xb, 1, none⟩ = some (ptr (q true)) ∧ z1.cell? ⟨S, 0, none⟩ = some (.bool o.other) ∧ z1.cell? ⟨S, 1, none⟩ = some (.bool o.near) ∧ z1.cell? ⟨S, 2, none⟩ = some (.bool o.none) ∧ z1.cell? ⟨S, 3, none⟩ = some (.int .i64 o.what) ∧ z1.cell? ⟨S, 4, none⟩ = some (.int .i64 o.prog) ∧ z1.cell? ⟨S, 5, none⟩ = some (.int .i64 o.vers) ∧ z1.cell? ⟨S, 6, none⟩ = some (.int .i64 o.proc) ∧ z1.cell? ⟨S, 7, none⟩ = some (.slice o.oa o.procs.length o.cap) ∧ z1.cell? ⟨S, 8, none⟩ = some (.string ⟨o.args.toArray⟩) := by
                     obtain ⟨a0, a1, a2, a3, a4, a5, a6, a7, a8⟩ := op_cells (HZ1.out.cells)
                     exact ⟨HZ1.out.lc.2.1, HZ1.out.lc.2.2.2, a0, a1, a2, a3, a4, a5, a6, a7, a8⟩
                   clear hz1))
              go_wp2
              go_roundw
              case rel => exact ⟨i + 1, by first | rfl | (rw [hw]; rfl), hlt, HZ1.out.x⟩
              case measure => exact meas (by first | rfl | exact hw) i1
          by_cases hk1 : o.what = 1
          · as_aux_lemma =>
              have hk := hk1
              have hw := HWJ.out
              have w0 : (o.what == 0) = false := by simp; omega
              have w1 : (o.what == 1) = true := by simpa using hk
              clear hk hk0 hk1
              have s0 : v9.drew.cell? ⟨lb, 1, none⟩ = some (ptr (b true)) ∧ v9.drew.cell? ⟨xb, 1, none⟩ = some (ptr (q true)) ∧ v9.drew.cell? ⟨S, 0, none⟩ = some (.bool o.other) ∧ v9.drew.cell? ⟨S, 1, none⟩ = some (.bool o.near) ∧ v9.drew.cell? ⟨S, 2, none⟩ = some (.bool o.none) ∧ v9.drew.cell? ⟨S, 3, none⟩ = some (.int .i64 o.what) ∧ v9.drew.cell? ⟨S, 4, none⟩ = some (.int .i64 o.prog) ∧ v9.drew.cell? ⟨S, 5, none⟩ = some (.int .i64 o.vers) ∧ v9.drew.cell? ⟨S, 6, none⟩ = some (.int .i64 o.proc) ∧ v9.drew.cell? ⟨S, 7, none⟩ = some (.slice o.oa o.procs.length o.cap) ∧ v9.drew.cell? ⟨S, 8, none⟩ = some (.string ⟨o.args.toArray⟩) := by
                obtain ⟨a0, a1, a2, a3, a4, a5, a6, a7, a8⟩ := op_cells (HZ.out.drew.cells)
                exact ⟨HZ.out.drew.lc.2.1, HZ.out.drew.lc.2.2.2, a0, a1, a2, a3, a4, a5, a6, a7, a8⟩
              have HC := hid (HZ.out.drew.offer HLEN.out.1 true)
              go_wp2_with fail
              go_region_held3 (fun w' => w'.cell? ⟨lb, 1, none⟩ = some (ptr (b true)) ∧ w'.cell? ⟨xb, 1, none⟩ = some (ptr (q true)) ∧ w'.cell? ⟨S, 0, none⟩ = some (.bool o.other) ∧ w'.cell? ⟨S, 1, none⟩ = some (.bool o.near) ∧ w'.cell? ⟨S, 2, none⟩ = some (.bool o.none) ∧ w'.cell? ⟨S, 3, none⟩ = some (.int .i64 o.what) ∧ w'.cell? ⟨S, 4, none⟩ = some (.int .i64 o.prog) ∧ w'.cell? ⟨S, 5, none⟩ = some (.int .i64 o.vers) ∧ w'.cell? ⟨S, 6, none⟩ = some (.int .i64 o.proc) ∧ w'.cell? ⟨S, 7, none⟩ = some (.slice o.oa o.procs.length o.cap) ∧ w'.cell? ⟨S, 8, none⟩ = some (.string ⟨o.args.toArray⟩)) (first | exact s0 | exact s7) (first
                | (go_at_call 8
                   refine HC.out.mono ?_
                   rintro _ z1 ⟨rfl, hz1⟩
                   have HZ1 := hid hz1
                   have s7 : z1.cell? ⟨lb, 1, none⟩ = some (ptr (b true)) ∧ z1.cell? ⟨xb, 1, none⟩ = some (ptr (q true)) ∧ z1.cell? ⟨S, 0, none⟩ = some (.bool o.other) ∧ z1.cell? ⟨S, 1, none⟩ = some (.bool o.near) ∧ z1.cell? ⟨S, 2, none⟩ = some (.bool o.none) ∧ z1.cell? ⟨S, 3, none⟩ = some (.int .i64 o.what) ∧ z1.cell? ⟨S, 4, none⟩ = some (.int .i64 o.prog) ∧ z1.cell? ⟨S, 5, none⟩ = some (.int .i64 o.vers) ∧ z1.cell? ⟨S, 6, none⟩ = some (.int .i64 o.proc) ∧ z1.cell? ⟨S, 7, none⟩ = some (.slice o.oa o.procs.length o.cap) ∧ z1.cell? ⟨S, 8, none⟩ = some (.string ⟨o.args.toArray⟩) := by
                     obtain ⟨a0, a1, a2, a3, a4, a5, a6, a7, a8⟩ := op_cells (HZ1.out.cells)
                     exact ⟨HZ1.out.lc.2.1, HZ1.out.lc.2.2.2, a0, a1, a2, a3, a4, a5, a6, a7, a8⟩
                   clear hz1))
              go_wp2
              go_roundw
              case rel => exact ⟨i + 1, by first | rfl | (rw [hw]; rfl), hlt, HZ1.out.x⟩
              case measure => exact meas (by first | rfl | exact hw) i1
          by_cases hk2 : o.what = 2
          · as_aux_lemma =>
              have hk := hk2
              have hw := HWJ.out
              have w0 : (o.what == 0) = false := by simp; omega
              have w1 : (o.what == 1) = false := by simp; omega
              have w2' : (o.what == 2) = true := by simpa using hk
              clear hk hk0 hk1 hk2
              have s0 : v9.drew.cell? ⟨lb, 1, none⟩ = some (ptr (b true)) ∧ v9.drew.cell? ⟨xb, 1, none⟩ = some (ptr (q true)) ∧ v9.drew.cell? ⟨S, 0, none⟩ = some (.bool o.other) ∧ v9.drew.cell? ⟨S, 1, none⟩ = some (.bool o.near) ∧ v9.drew.cell? ⟨S, 2, none⟩ = some (.bool o.none) ∧ v9.drew.cell? ⟨S, 3, none⟩ = some (.int .i64 o.what) ∧ v9.drew.cell? ⟨S, 4, none⟩ = some (.int .i64 o.prog) ∧ v9.drew.cell? ⟨S, 5, none⟩ = some (.int .i64 o.vers) ∧ v9.drew.cell? ⟨S, 6, none⟩ = some (.int .i64 o.proc) ∧ v9.drew.cell? ⟨S, 7, none⟩ = some (.slice o.oa o.procs.length o.cap) ∧ v9.drew.cell? ⟨S, 8, none⟩ = some (.string ⟨o.args.toArray⟩) := by
                obtain ⟨a0, a1, a2, a3, a4, a5, a6, a7, a8⟩ := op_cells (HZ.out.drew.cells)
                exact ⟨HZ.out.drew.lc.2.1, HZ.out.drew.lc.2.2.2, a0, a1, a2, a3, a4, a5, a6, a7, a8⟩
              obtain ⟨R, hR1, hR2⟩ := HZ.out.drew.find true
              have HR1 := hid hR1
              have HR2 := hid hR2
              clear hR1 hR2
              obtain ⟨R0, R1, R2⟩ := R
              go_wp2_with fail
              go_region_held3 (fun w' => w'.cell? ⟨lb, 1, none⟩ = some (ptr (b true)) ∧ w'.cell? ⟨xb, 1, none⟩ = some (ptr (q true)) ∧ w'.cell? ⟨S, 0, none⟩ = some (.bool o.other) ∧ w'.cell? ⟨S, 1, none⟩ = some (.bool o.near) ∧ w'.cell? ⟨S, 2, none⟩ = some (.bool o.none) ∧ w'.cell? ⟨S, 3, none⟩ = some (.int .i64 o.what) ∧ w'.cell? ⟨S, 4, none⟩ = some (.int .i64 o.prog) ∧ w'.cell? ⟨S, 5, none⟩ = some (.int .i64 o.vers) ∧ w'.cell? ⟨S, 6, none⟩ = some (.int .i64 o.proc) ∧ w'.cell? ⟨S, 7, none⟩ = some (.slice o.oa o.procs.length o.cap) ∧ w'.cell? ⟨S, 8, none⟩ = some (.string ⟨o.args.toArray⟩)) (first | exact s0 | exact s7) (first
                | (go_at_call 9
                   refine (HR1.out _ (Below.refl _ _)).mono ?_
                   rintro _ z1 ⟨rfl, hz1⟩
                   have HZ1 := hid (HZ.out.drew.below hz1)
                   have HBZ1 := hid hz1
                   have s7 : z1.cell? ⟨lb, 1, none⟩ = some (ptr (b true)) ∧ z1.cell? ⟨xb, 1, none⟩ = some (ptr (q true)) ∧ z1.cell? ⟨S, 0, none⟩ = some (.bool o.other) ∧ z1.cell? ⟨S, 1, none⟩ = some (.bool o.near) ∧ z1.cell? ⟨S, 2, none⟩ = some (.bool o.none) ∧ z1.cell? ⟨S, 3, none⟩ = some (.int .i64 o.what) ∧ z1.cell? ⟨S, 4, none⟩ = some (.int .i64 o.prog) ∧ z1.cell? ⟨S, 5, none⟩ = some (.int .i64 o.vers) ∧ z1.cell? ⟨S, 6, none⟩ = some (.int .i64 o.proc) ∧ z1.cell? ⟨S, 7, none⟩ = some (.slice o.oa o.procs.length o.cap) ∧ z1.cell? ⟨S, 8, none⟩ = some (.string ⟨o.args.toArray⟩) := by
                     obtain ⟨a0, a1, a2, a3, a4, a5, a6, a7, a8⟩ := op_cells (HZ1.out.cells)
                     exact ⟨HZ1.out.lc.2.1, HZ1.out.lc.2.2.2, a0, a1, a2, a3, a4, a5, a6, a7, a8⟩
                   clear hz1))
              clear s0
              have t0 : z1.drew.cell? ⟨lb, 1, none⟩ = some (ptr (b true)) ∧ z1.drew.cell? ⟨xb, 1, none⟩ = some (ptr (q true)) ∧ z1.drew.cell? ⟨S, 0, none⟩ = some (.bool o.other) ∧ z1.drew.cell? ⟨S, 1, none⟩ = some (.bool o.near) ∧ z1.drew.cell? ⟨S, 2, none⟩ = some (.bool o.none) ∧ z1.drew.cell? ⟨S, 3, none⟩ = some (.int .i64 o.what) ∧ z1.drew.cell? ⟨S, 4, none⟩ = some (.int .i64 o.prog) ∧ z1.drew.cell? ⟨S, 5, none⟩ = some (.int .i64 o.vers) ∧ z1.drew.cell? ⟨S, 6, none⟩ = some (.int .i64 o.proc) ∧ z1.drew.cell? ⟨S, 7, none⟩ = some (.slice o.oa o.procs.length o.cap) ∧ z1.drew.cell? ⟨S, 8, none⟩ = some (.string ⟨o.args.toArray⟩) := by
                obtain ⟨a0, a1, a2, a3, a4, a5, a6, a7, a8⟩ := op_cells (HZ1.out.drew.cells)
                exact ⟨HZ1.out.drew.lc.2.1, HZ1.out.drew.lc.2.2.2, a0, a1, a2, a3, a4, a5, a6, a7, a8⟩
              have HBD : Hid (Below v9.drew.heap.size v9.drew z1.drew) := ⟨HBZ1.out.os, HBZ1.out.tape, HBZ1.out.output, HBZ1.out.size, HBZ1.out.block⟩
              go_wp2_with fail
              go_region_held3 (fun w' => w'.cell? ⟨lb, 1, none⟩ = some (ptr (b true)) ∧ w'.cell? ⟨xb, 1, none⟩ = some (ptr (q true)) ∧ w'.cell? ⟨S, 0, none⟩ = some (.bool o.other) ∧ w'.cell? ⟨S, 1, none⟩ = some (.bool o.near) ∧ w'.cell? ⟨S, 2, none⟩ = some (.bool o.none) ∧ w'.cell? ⟨S, 3, none⟩ = some (.int .i64 o.what) ∧ w'.cell? ⟨S, 4, none⟩ = some (.int .i64 o.prog) ∧ w'.cell? ⟨S, 5, none⟩ = some (.int .i64 o.vers) ∧ w'.cell? ⟨S, 6, none⟩ = some (.int .i64 o.proc) ∧ w'.cell? ⟨S, 7, none⟩ = some (.slice o.oa o.procs.length o.cap) ∧ w'.cell? ⟨S, 8, none⟩ = some (.string ⟨o.args.toArray⟩)) (first | exact t0 | exact t7) (first
                | (go_at_call 10
                   refine (HR2.out _ HBD.out).mono ?_
                   rintro _ z2 ⟨rfl, hz2⟩
                   have HZ2 := hid (HZ1.out.drew.below hz2)
                   have t7 : z2.cell? ⟨lb, 1, none⟩ = some (ptr (b true)) ∧ z2.cell? ⟨xb, 1, none⟩ = some (ptr (q true)) ∧ z2.cell? ⟨S, 0, none⟩ = some (.bool o.other) ∧ z2.cell? ⟨S, 1, none⟩ = some (.bool o.near) ∧ z2.cell? ⟨S, 2, none⟩ = some (.bool o.none) ∧ z2.cell? ⟨S, 3, none⟩ = some (.int .i64 o.what) ∧ z2.cell? ⟨S, 4, none⟩ = some (.int .i64 o.prog) ∧ z2.cell? ⟨S, 5, none⟩ = some (.int .i64 o.vers) ∧ z2.cell? ⟨S, 6, none⟩ = some (.int .i64 o.proc) ∧ z2.cell? ⟨S, 7, none⟩ = some (.slice o.oa o.procs.length o.cap) ∧ z2.cell? ⟨S, 8, none⟩ = some (.string ⟨o.args.toArray⟩) := by
                     obtain ⟨a0, a1, a2, a3, a4, a5, a6, a7, a8⟩ := op_cells (HZ2.out.cells)
                     exact ⟨HZ2.out.lc.2.1, HZ2.out.lc.2.2.2, a0, a1, a2, a3, a4, a5, a6, a7, a8⟩
                   clear hz2))
              go_wp2
              go_roundw
              case rel => exact ⟨i + 1, by first | rfl | (rw [hw]; rfl), hlt, HZ2.out.x⟩
              case measure => exact meas (by first | rfl | exact hw) i1
          by_cases hk3 : o.what = 3
          · as_aux_lemma =>
              have hk := hk3
              have hw := HWJ.out
              have w0 : (o.what == 0) = false := by simp; omega
              have w1 : (o.what == 1) = false := by simp; omega
              have w2' : (o.what == 2) = false := by simp; omega
              have w3' : (o.what == 3) = true := by simpa using hk
              clear hk hk0 hk1 hk2 hk3
              have s0 : v9.drew.cell? ⟨lb, 1, none⟩ = some (ptr (b true)) ∧ v9.drew.cell? ⟨xb, 1, none⟩ = some (ptr (q true)) ∧ v9.drew.cell? ⟨S, 0, none⟩ = some (.bool o.other) ∧ v9.drew.cell? ⟨S, 1, none⟩ = some (.bool o.near) ∧ v9.drew.cell? ⟨S, 2, none⟩ = some (.bool o.none) ∧ v9.drew.cell? ⟨S, 3, none⟩ = some (.int .i64 o.what) ∧ v9.drew.cell? ⟨S, 4, none⟩ = some (.int .i64 o.prog) ∧ v9.drew.cell? ⟨S, 5, none⟩ = some (.int .i64 o.vers) ∧ v9.drew.cell? ⟨S, 6, none⟩ = some (.int .i64 o.proc) ∧ v9.drew.cell? ⟨S, 7, none⟩ = some (.slice o.oa o.procs.length o.cap) ∧ v9.drew.cell? ⟨S, 8, none⟩ = some (.string ⟨o.args.toArray⟩) := by
                obtain ⟨a0, a1, a2, a3, a4, a5, a6, a7, a8⟩ := op_cells (HZ.out.drew.cells)
                exact ⟨HZ.out.drew.lc.2.1, HZ.out.drew.lc.2.2.2, a0, a1, a2, a3, a4, a5, a6, a7, a8⟩
              obtain ⟨R, hR1, hR2⟩ := HZ.out.drew.find true
              have HR1 := hid hR1
              have HR2 := hid hR2
              clear hR1 hR2
              obtain ⟨R0, R1, R2⟩ := R
              go_wp2_with fail
              go_region_held3 (fun w' => w'.cell? ⟨lb, 1, none⟩ = some (ptr (b true)) ∧ w'.cell? ⟨xb, 1, none⟩ = some (ptr (q true)) ∧ w'.cell? ⟨S, 0, none⟩ = some (.bool o.other) ∧ w'.cell? ⟨S, 1, none⟩ = some (.bool o.near) ∧ w'.cell? ⟨S, 2, none⟩ = some (.bool o.none) ∧ w'.cell? ⟨S, 3, none⟩ = some (.int .i64 o.what) ∧ w'.cell? ⟨S, 4, none⟩ = some (.int .i64 o.prog) ∧ w'.cell? ⟨S, 5, none⟩ = some (.int .i64 o.vers) ∧ w'.cell? ⟨S, 6, none⟩ = some (.int .i64 o.proc) ∧ w'.cell? ⟨S, 7, none⟩ = some (.slice o.oa o.procs.length o.cap) ∧ w'.cell? ⟨S, 8, none⟩ = some (.string ⟨o.args.toArray⟩)) (first | exact s0 | exact s7) (first
                | (go_at_call 9
                   refine (HR1.out _ (Below.refl _ _)).mono ?_
                   rintro _ z1 ⟨rfl, hz1⟩
                   have HZ1 := hid (HZ.out.drew.below hz1)
                   have HBZ1 := hid hz1
                   have s7 : z1.cell? ⟨lb, 1, none⟩ = some (ptr (b true)) ∧ z1.cell? ⟨xb, 1, none⟩ = some (ptr (q true)) ∧ z1.cell? ⟨S, 0, none⟩ = some (.bool o.other) ∧ z1.cell? ⟨S, 1, none⟩ = some (.bool o.near) ∧ z1.cell? ⟨S, 2, none⟩ = some (.bool o.none) ∧ z1.cell? ⟨S, 3, none⟩ = some (.int .i64 o.what) ∧ z1.cell? ⟨S, 4, none⟩ = some (.int .i64 o.prog) ∧ z1.cell? ⟨S, 5, none⟩ = some (.int .i64 o.vers) ∧ z1.cell? ⟨S, 6, none⟩ = some (.int .i64 o.proc) ∧ z1.cell? ⟨S, 7, none⟩ = some (.slice o.oa o.procs.length o.cap) ∧ z1.cell? ⟨S, 8, none⟩ = some (.string ⟨o.args.toArray⟩) := by
                     obtain ⟨a0, a1, a2, a3, a4, a5, a6, a7, a8⟩ := op_cells (HZ1.out.cells)
                     exact ⟨HZ1.out.lc.2.1, HZ1.out.lc.2.2.2, a0, a1, a2, a3, a4, a5, a6, a7, a8⟩
                   clear hz1))
              clear s0
              have t0 : z1.drew.cell? ⟨lb, 1, none⟩ = some (ptr (b true)) ∧ z1.drew.cell? ⟨xb, 1, none⟩ = some (ptr (q true)) ∧ z1.drew.cell? ⟨S, 0, none⟩ = some (.bool o.other) ∧ z1.drew.cell? ⟨S, 1, none⟩ = some (.bool o.near) ∧ z1.drew.cell? ⟨S, 2, none⟩ = some (.bool o.none) ∧ z1.drew.cell? ⟨S, 3, none⟩ = some (.int .i64 o.what) ∧ z1.drew.cell? ⟨S, 4, none⟩ = some (.int .i64 o.prog) ∧ z1.drew.cell? ⟨S, 5, none⟩ = some (.int .i64 o.vers) ∧ z1.drew.cell? ⟨S, 6, none⟩ = some (.int .i64 o.proc) ∧ z1.drew.cell? ⟨S, 7, none⟩ = some (.slice o.oa o.procs.length o.cap) ∧ z1.drew.cell? ⟨S, 8, none⟩ = some (.string ⟨o.args.toArray⟩) := by
                obtain ⟨a0, a1, a2, a3, a4, a5, a6, a7, a8⟩ := op_cells (HZ1.out.drew.cells)
                exact ⟨HZ1.out.drew.lc.2.1, HZ1.out.drew.lc.2.2.2, a0, a1, a2, a3, a4, a5, a6, a7, a8⟩
              have HBD : Hid (Below v9.drew.heap.size v9.drew z1.drew) := ⟨HBZ1.out.os, HBZ1.out.tape, HBZ1.out.output, HBZ1.out.size, HBZ1.out.block⟩
              go_wp2_with fail
              go_region_held3 (fun w' => w'.cell? ⟨lb, 1, none⟩ = some (ptr (b true)) ∧ w'.cell? ⟨xb, 1, none⟩ = some (ptr (q true)) ∧ w'.cell? ⟨S, 0, none⟩ = some (.bool o.other) ∧ w'.cell? ⟨S, 1, none⟩ = some (.bool o.near) ∧ w'.cell? ⟨S, 2, none⟩ = some (.bool o.none) ∧ w'.cell? ⟨S, 3, none⟩ = some (.int .i64 o.what) ∧ w'.cell? ⟨S, 4, none⟩ = some (.int .i64 o.prog) ∧ w'.cell? ⟨S, 5, none⟩ = some (.int .i64 o.vers) ∧ w'.cell? ⟨S, 6, none⟩ = some (.int .i64 o.proc) ∧ w'.cell? ⟨S, 7, none⟩ = some (.slice o.oa o.procs.length o.cap) ∧ w'.cell? ⟨S, 8, none⟩ = some (.string ⟨o.args.toArray⟩)) (first | exact t0 | exact t7) (first
                | (go_at_call 10
                   refine (HR2.out _ HBD.out).mono ?_
                   rintro _ z2 ⟨rfl, hz2⟩
                   have HZ2 := hid (HZ1.out.drew.below hz2)
                   have t7 : z2.cell? ⟨lb, 1, none⟩ = some (ptr (b true)) ∧ z2.cell? ⟨xb, 1, none⟩ = some (ptr (q true)) ∧ z2.cell? ⟨S, 0, none⟩ = some (.bool o.other) ∧ z2.cell? ⟨S, 1, none⟩ = some (.bool o.near) ∧ z2.cell? ⟨S, 2, none⟩ = some (.bool o.none) ∧ z2.cell? ⟨S, 3, none⟩ = some (.int .i64 o.what) ∧ z2.cell? ⟨S, 4, none⟩ = some (.int .i64 o.prog) ∧ z2.cell? ⟨S, 5, none⟩ = some (.int .i64 o.vers) ∧ z2.cell? ⟨S, 6, none⟩ = some (.int .i64 o.proc) ∧ z2.cell? ⟨S, 7, none⟩ = some (.slice o.oa o.procs.length o.cap) ∧ z2.cell? ⟨S, 8, none⟩ = some (.string ⟨o.args.toArray⟩) := by
                     obtain ⟨a0, a1, a2, a3, a4, a5, a6, a7, a8⟩ := op_cells (HZ2.out.cells)
                     exact ⟨HZ2.out.lc.2.1, HZ2.out.lc.2.2.2, a0, a1, a2, a3, a4, a5, a6, a7, a8⟩
                   clear hz2))
              go_wp2
              go_roundw
              case rel => exact ⟨i + 1, by first | rfl | (rw [hw]; rfl), hlt, HZ2.out.x⟩
              case measure => exact meas (by first | rfl | exact hw) i1
          as_aux_lemma =>
            have hk := hk3
            have hw := HWJ.out
            have w0 : (o.what == 0) = false := by simp; omega
            have w1 : (o.what == 1) = false := by simp; omega
            have w2' : (o.what == 2) = false := by simp; omega
            have w3' : (o.what == 3) = false := by simp; omega
            clear hk hk0 hk1 hk2 hk3
            have s0 : v9.drew.cell? ⟨lb, 1, none⟩ = some (ptr (b true)) ∧ v9.drew.cell? ⟨xb, 1, none⟩ = some (ptr (q true)) ∧ v9.drew.cell? ⟨S, 0, none⟩ = some (.bool o.other) ∧ v9.drew.cell? ⟨S, 1, none⟩ = some (.bool o.near) ∧ v9.drew.cell? ⟨S, 2, none⟩ = some (.bool o.none) ∧ v9.drew.cell? ⟨S, 3, none⟩ = some (.int .i64 o.what) ∧ v9.drew.cell? ⟨S, 4, none⟩ = some (.int .i64 o.prog) ∧ v9.drew.cell? ⟨S, 5, none⟩ = some (.int .i64 o.vers) ∧ v9.drew.cell? ⟨S, 6, none⟩ = some (.int .i64 o.proc) ∧ v9.drew.cell? ⟨S, 7, none⟩ = some (.slice o.oa o.procs.length o.cap) ∧ v9.drew.cell? ⟨S, 8, none⟩ = some (.string ⟨o.args.toArray⟩) := by
              obtain ⟨a0, a1, a2, a3, a4, a5, a6, a7, a8⟩ := op_cells (HZ.out.drew.cells)
              exact ⟨HZ.out.drew.lc.2.1, HZ.out.drew.lc.2.2.2, a0, a1, a2, a3, a4, a5, a6, a7, a8⟩
            obtain ⟨R, hR1, hR2⟩ := HZ.out.drew.run HLEN.out.2 true
            have HR1 := hid hR1
            have HR2 := hid hR2
            clear hR1 hR2
            obtain ⟨R0, R1⟩ := R
            go_wp2_with fail
            go_region_held3 (fun w' => w'.cell? ⟨lb, 1, none⟩ = some (ptr (b true)) ∧ w'.cell? ⟨xb, 1, none⟩ = some (ptr (q true)) ∧ w'.cell? ⟨S, 0, none⟩ = some (.bool o.other) ∧ w'.cell? ⟨S, 1, none⟩ = some (.bool o.near) ∧ w'.cell? ⟨S, 2, none⟩ = some (.bool o.none) ∧ w'.cell? ⟨S, 3, none⟩ = some (.int .i64 o.what) ∧ w'.cell? ⟨S, 4, none⟩ = some (.int .i64 o.prog) ∧ w'.cell? ⟨S, 5, none⟩ = some (.int .i64 o.vers) ∧ w'.cell? ⟨S, 6, none⟩ = some (.int .i64 o.proc) ∧ w'.cell? ⟨S, 7, none⟩ = some (.slice o.oa o.procs.length o.cap) ∧ w'.cell? ⟨S, 8, none⟩ = some (.string ⟨o.args.toArray⟩)) (first | exact s0 | exact s7) (first
              | (go_at_call 11
                 refine (HR1.out _ (Below.refl _ _)).mono ?_
                 rintro _ z1 ⟨rfl, hz1⟩
                 have HZ1 := hid (HZ.out.drew.below hz1)
                 have HBZ1 := hid hz1
                 have s7 : z1.cell? ⟨lb, 1, none⟩ = some (ptr (b true)) ∧ z1.cell? ⟨xb, 1, none⟩ = some (ptr (q true)) ∧ z1.cell? ⟨S, 0, none⟩ = some (.bool o.other) ∧ z1.cell? ⟨S, 1, none⟩ = some (.bool o.near) ∧ z1.cell? ⟨S, 2, none⟩ = some (.bool o.none) ∧ z1.cell? ⟨S, 3, none⟩ = some (.int .i64 o.what) ∧ z1.cell? ⟨S, 4, none⟩ = some (.int .i64 o.prog) ∧ z1.cell? ⟨S, 5, none⟩ = some (.int .i64 o.vers) ∧ z1.cell? ⟨S, 6, none⟩ = some (.int .i64 o.proc) ∧ z1.cell? ⟨S, 7, none⟩ = some (.slice o.oa o.procs.length o.cap) ∧ z1.cell? ⟨S, 8, none⟩ = some (.string ⟨o.args.toArray⟩) := by
                   obtain ⟨a0, a1, a2, a3, a4, a5, a6, a7, a8⟩ := op_cells (HZ1.out.cells)
                   exact ⟨HZ1.out.lc.2.1, HZ1.out.lc.2.2.2, a0, a1, a2, a3, a4, a5, a6, a7, a8⟩
                 clear hz1))
            clear s0
            have t0 : z1.drew.cell? ⟨lb, 1, none⟩ = some (ptr (b true)) ∧ z1.drew.cell? ⟨xb, 1, none⟩ = some (ptr (q true)) ∧ z1.drew.cell? ⟨S, 0, none⟩ = some (.bool o.other) ∧ z1.drew.cell? ⟨S, 1, none⟩ = some (.bool o.near) ∧ z1.drew.cell? ⟨S, 2, none⟩ = some (.bool o.none) ∧ z1.drew.cell? ⟨S, 3, none⟩ = some (.int .i64 o.what) ∧ z1.drew.cell? ⟨S, 4, none⟩ = some (.int .i64 o.prog) ∧ z1.drew.cell? ⟨S, 5, none⟩ = some (.int .i64 o.vers) ∧ z1.drew.cell? ⟨S, 6, none⟩ = some (.int .i64 o.proc) ∧ z1.drew.cell? ⟨S, 7, none⟩ = some (.slice o.oa o.procs.length o.cap) ∧ z1.drew.cell? ⟨S, 8, none⟩ = some (.string ⟨o.args.toArray⟩) := by
              obtain ⟨a0, a1, a2, a3, a4, a5, a6, a7, a8⟩ := op_cells (HZ1.out.drew.cells)
              exact ⟨HZ1.out.drew.lc.2.1, HZ1.out.drew.lc.2.2.2, a0, a1, a2, a3, a4, a5, a6, a7, a8⟩
            have HBD : Hid (Below v9.drew.heap.size v9.drew z1.drew) := ⟨HBZ1.out.os, HBZ1.out.tape, HBZ1.out.output, HBZ1.out.size, HBZ1.out.block⟩
            go_wp2_with fail
            go_region_held3 (fun w' => w'.cell? ⟨lb, 1, none⟩ = some (ptr (b true)) ∧ w'.cell? ⟨xb, 1, none⟩ = some (ptr (q true)) ∧ w'.cell? ⟨S, 0, none⟩ = some (.bool o.other) ∧ w'.cell? ⟨S, 1, none⟩ = some (.bool o.near) ∧ w'.cell? ⟨S, 2, none⟩ = some (.bool o.none) ∧ w'.cell? ⟨S, 3, none⟩ = some (.int .i64 o.what) ∧ w'.cell? ⟨S, 4, none⟩ = some (.int .i64 o.prog) ∧ w'.cell? ⟨S, 5, none⟩ = some (.int .i64 o.vers) ∧ w'.cell? ⟨S, 6, none⟩ = some (.int .i64 o.proc) ∧ w'.cell? ⟨S, 7, none⟩ = some (.slice o.oa o.procs.length o.cap) ∧ w'.cell? ⟨S, 8, none⟩ = some (.string ⟨o.args.toArray⟩)) (first | exact t0 | exact t7) (first
              | (go_at_call 12
                 refine (HR2.out _ HBD.out).mono ?_
                 rintro _ z2 ⟨rfl, hz2⟩
                 have HZ2 := hid (HZ1.out.drew.below hz2)
                 have t7 : z2.cell? ⟨lb, 1, none⟩ = some (ptr (b true)) ∧ z2.cell? ⟨xb, 1, none⟩ = some (ptr (q true)) ∧ z2.cell? ⟨S, 0, none⟩ = some (.bool o.other) ∧ z2.cell? ⟨S, 1, none⟩ = some (.bool o.near) ∧ z2.cell? ⟨S, 2, none⟩ = some (.bool o.none) ∧ z2.cell? ⟨S, 3, none⟩ = some (.int .i64 o.what) ∧ z2.cell? ⟨S, 4, none⟩ = some (.int .i64 o.prog) ∧ z2.cell? ⟨S, 5, none⟩ = some (.int .i64 o.vers) ∧ z2.cell? ⟨S, 6, none⟩ = some (.int .i64 o.proc) ∧ z2.cell? ⟨S, 7, none⟩ = some (.slice o.oa o.procs.length o.cap) ∧ z2.cell? ⟨S, 8, none⟩ = some (.string ⟨o.args.toArray⟩) := by
                   obtain ⟨a0, a1, a2, a3, a4, a5, a6, a7, a8⟩ := op_cells (HZ2.out.cells)
                   exact ⟨HZ2.out.lc.2.1, HZ2.out.lc.2.2.2, a0, a1, a2, a3, a4, a5, a6, a7, a8⟩
                 clear hz2))
            go_wp2
            go_roundw
            case rel => exact ⟨i + 1, by first | rfl | (rw [hw]; rfl), hlt, HZ2.out.x⟩
            case measure => exact meas (by first | rfl | exact hw) i1
      · have HNR := hid (near_any o v9 (by obtain ⟨K, oa, cap, A, L, v, τ, _, h2, _, _⟩ := HZ.out; exact h2.at_) HI.out.1 HI.out.2.1 HI.out.2.2.1)
        have hAo : opA o = #[.bool o.other, .bool true, .bool o.none, .int .i64 o.what, .int .i64 o.prog, .int .i64 o.vers, .int .i64 o.proc, .slice o.oa o.procs.length o.cap, .string ⟨o.args.toArray⟩] := by
          show #[Value.bool o.other, .bool o.near, .bool o.none, .int .i64 o.what, .int .i64 o.prog, .int .i64 o.vers, .int .i64 o.proc, .slice o.oa o.procs.length o.cap, .string ⟨o.args.toArray⟩] = _
          rw [hnear]
        rw [hAo] at HNR
        clear hAo
        rw [hnear] at y1
        clear hnear
        go_wp2_with fail
        refine HNR.out.mono ?_
        rintro _ x1 ⟨on, oc, rfl, hgx, hbx⟩
        obtain ⟨p, hp⟩ : ∃ p, nearO o on oc = p := ⟨_, rfl⟩
        have hpw : p.what = o.what ∧ p.other = o.other ∧ p.procs = nearL o.procs ∧ p.oa = on ∧ p.args = o.args := by rw [← hp]; exact ⟨rfl, rfl, rfl, rfl, rfl⟩
        rw [hp]
        have kx : x1.heap[S]? = some (.cells (opA o) 34) := (hbx.block S (Array.getElem?_eq_some_iff.1 HZ.out.cells).1).trans HZ.out.cells
        obtain ⟨e1, e2, e3, e4, e5, e6, e7, e8, e9, ⟨G1, G2, G3, G4, G5, G6, G7, G8, G9⟩, ⟨M0, M1, M2, M3, M4, M5, M6, M7, M8⟩, ⟨N0, N1, N2, N3, N4, N5, N6, N7, N8⟩, L9, BB9, SS9⟩ := over9 x1 34 _ _ _ _ _ _ _ _ _ (.bool p.other) (.bool p.near) (.bool p.none) (.int .i64 p.what) (.int .i64 p.prog) (.int .i64 p.vers) (.int .i64 p.proc) (.slice p.oa p.procs.length p.cap) (.string ⟨p.args.toArray⟩) S kx
        have HZP : Hid (ST W e9 b q lb xb S p) := by
          obtain ⟨K, oa, cap, A, L, v, τ, h1, h2, h3, h4⟩ := HZ.out
          have ma := Mv.of_below hbx K (fun _ => 9)
          have hk : ext v9 K (fun _ => 9) S = 11 := (ext_old h4.lt).trans h4.k
          have mb := mv9 G1 G2 G3 G4 G5 G6 G7 G8 G9 hk
          have hgt : GsT (ext v9 K (fun _ => 9)) x1 9 p.oa p.procs := by
            rw [hpw.2.2.2.1, hpw.2.2.1]
            exact GsN.tag hgx (fun _ => rfl)
          exact ⟨_, oa, cap, A, L, v, 9, (h1.mv ma (fun _ h => h.elim)).mv mb (fun x h => by omega), hgt.mv mb (by omega), .inr rfl, ⟨L9, hk⟩⟩
        have HLEN : Hid (p.procs.length ≤ 17592186044415 ∧ p.args.length ≤ 281474976710656) := by
          rw [hpw.2.2.1, hpw.2.2.2.2, nearL_len]
          exact HI.out.2.2
        clear hpw hp hgx hbx kx BB9 SS9 HI HZ HNR
        obtain ⟨Y0, Y1, Y2, Y3, Y4, Y5, Y6, Y7, Y8⟩ := op_cells L9
        clear L9 y0 y1 y2 y3 y4 y5 y6 y7 y8
        cases hoth : p.other
        · rw [hoth] at Y0
          clear hoth
          by_cases hk0 : p.what = 0
          · as_aux_lemma =>
              have hk := hk0
              have hw := HWJ.out
              have w0 : (p.what == 0) = true := by simpa using hk
              clear hk hk0
              have s0 : e9.drew.cell? ⟨lb, 0, none⟩ = some (ptr (b false)) ∧ e9.drew.cell? ⟨xb, 0, none⟩ = some (ptr (q false)) ∧ e9.drew.cell? ⟨S, 0, none⟩ = some (.bool p.other) ∧ e9.drew.cell? ⟨S, 1, none⟩ = some (.bool p.near) ∧ e9.drew.cell? ⟨S, 2, none⟩ = some (.bool p.none) ∧ e9.drew.cell? ⟨S, 3, none⟩ = some (.int .i64 p.what) ∧ e9.drew.cell? ⟨S, 4, none⟩ = some (.int .i64 p.prog) ∧ e9.drew.cell? ⟨S, 5, none⟩ = some (.int .i64 p.vers) ∧ e9.drew.cell? ⟨S, 6, none⟩ = some (.int .i64 p.proc) ∧ e9.drew.cell? ⟨S, 7, none⟩ = some (.slice p.oa p.procs.length p.cap) ∧ e9.drew.cell? ⟨S, 8, none⟩ = some (.string ⟨p.args.toArray⟩) := by
                obtain ⟨a0, a1, a2, a3, a4, a5, a6, a7, a8⟩ := op_cells (HZP.out.drew.cells)
                exact ⟨HZP.out.drew.lc.1, HZP.out.drew.lc.2.2.1, a0, a1, a2, a3, a4, a5, a6, a7, a8⟩
              have HC := hid (HZP.out.drew.offer HLEN.out.1 false)
              go_wp2_with fail
              go_region_held3 (fun w' => w'.cell? ⟨lb, 0, none⟩ = some (ptr (b false)) ∧ w'.cell? ⟨xb, 0, none⟩ = some (ptr (q false)) ∧ w'.cell? ⟨S, 0, none⟩ = some (.bool p.other) ∧ w'.cell? ⟨S, 1, none⟩ = some (.bool p.near) ∧ w'.cell? ⟨S, 2, none⟩ = some (.bool p.none) ∧ w'.cell? ⟨S, 3, none⟩ = some (.int .i64 p.what) ∧ w'.cell? ⟨S, 4, none⟩ = some (.int .i64 p.prog) ∧ w'.cell? ⟨S, 5, none⟩ = some (.int .i64 p.vers) ∧ w'.cell? ⟨S, 6, none⟩ = some (.int .i64 p.proc) ∧ w'.cell? ⟨S, 7, none⟩ = some (.slice p.oa p.procs.length p.cap) ∧ w'.cell? ⟨S, 8, none⟩ = some (.string ⟨p.args.toArray⟩)) (first | exact s0 | exact s7) (first
                | (go_at_call 8
                   refine HC.out.mono ?_
                   rintro _ z1 ⟨rfl, hz1⟩
                   have HZ1 := hid hz1
                   have s7 : z1.cell? ⟨lb, 0, none⟩ = some (ptr (b false)) ∧ z1.cell? ⟨xb, 0, none⟩ = some (ptr (q false)) ∧ z1.cell? ⟨S, 0, none⟩ = some (.bool p.other) ∧ z1.cell? ⟨S, 1, none⟩ = some (.bool p.near) ∧ z1.cell? ⟨S, 2, none⟩ = some (.bool p.none) ∧ z1.cell? ⟨S, 3, none⟩ = some (.int .i64 p.what) ∧ z1.cell? ⟨S, 4, none⟩ = some (.int .i64 p.prog) ∧ z1.cell? ⟨S, 5, none⟩ = some (.int .i64 p.vers) ∧ z1.cell? ⟨S, 6, none⟩ = some (.int .i64 p.proc) ∧ z1.cell? ⟨S, 7, none⟩ = some (.slice p.oa p.procs.length p.cap) ∧ z1.cell? ⟨S, 8, none⟩ = some (.string ⟨p.args.toArray⟩) := by
                     obtain ⟨a0, a1, a2, a3, a4, a5, a6, a7, a8⟩ := op_cells (HZ1.out.cells)
                     exact ⟨HZ1.out.lc.1, HZ1.out.lc.2.2.1, a0, a1, a2, a3, a4, a5, a6, a7, a8⟩
                   clear hz1))
              go_wp2
              go_roundw
              case rel => exact ⟨i + 1, by first | rfl | (rw [hw]; rfl), hlt, HZ1.out.x⟩
              case measure => exact meas (by first | rfl | exact hw) i1
          by_cases hk1 : p.what = 1
          · as_aux_lemma =>
              have hk := hk1
              have hw := HWJ.out
              have w0 : (p.what == 0) = false := by simp; omega
              have w1 : (p.what == 1) = true := by simpa using hk
              clear hk hk0 hk1
              have s0 : e9.drew.cell? ⟨lb, 0, none⟩ = some (ptr (b false)) ∧ e9.drew.cell? ⟨xb, 0, none⟩ = some (ptr (q false)) ∧ e9.drew.cell? ⟨S, 0, none⟩ = some (.bool p.other) ∧ e9.drew.cell? ⟨S, 1, none⟩ = some (.bool p.near) ∧ e9.drew.cell? ⟨S, 2, none⟩ = some (.bool p.none) ∧ e9.drew.cell? ⟨S, 3, none⟩ = some (.int .i64 p.what) ∧ e9.drew.cell? ⟨S, 4, none⟩ = some (.int .i64 p.prog) ∧ e9.drew.cell? ⟨S, 5, none⟩ = some (.int .i64 p.vers) ∧ e9.drew.cell? ⟨S, 6, none⟩ = some (.int .i64 p.proc) ∧ e9.drew.cell? ⟨S, 7, none⟩ = some (.slice p.oa p.procs.length p.cap) ∧ e9.drew.cell? ⟨S, 8, none⟩ = some (.string ⟨p.args.toArray⟩) := by
                obtain ⟨a0, a1, a2, a3, a4, a5, a6, a7, a8⟩ := op_cells (HZP.out.drew.cells)
                exact ⟨HZP.out.drew.lc.1, HZP.out.drew.lc.2.2.1, a0, a1, a2, a3, a4, a5, a6, a7, a8⟩
              have HC := hid (HZP.out.drew.offer HLEN.out.1 false)
              go_wp2_with fail
              go_region_held3 (fun w' => w'.cell? ⟨lb, 0, none⟩ = some (ptr (b false)) ∧ w'.cell? ⟨xb, 0, none⟩ = some (ptr (q false)) ∧ w'.cell? ⟨S, 0, none⟩ = some (.bool p.other) ∧ w'.cell? ⟨S, 1, none⟩ = some (.bool p.near) ∧ w'.cell? ⟨S, 2, none⟩ = some (.bool p.none) ∧ w'.cell? ⟨S, 3, none⟩ = some (.int .i64 p.what) ∧ w'.cell? ⟨S, 4, none⟩ = some (.int .i64 p.prog) ∧ w'.cell? ⟨S, 5, none⟩ = some (.int .i64 p.vers) ∧ w'.cell? ⟨S, 6, none⟩ = some (.int .i64 p.proc) ∧ w'.cell? ⟨S, 7, none⟩ = some (.slice p.oa p.procs.length p.cap) ∧ w'.cell? ⟨S, 8, none⟩ = some (.string ⟨p.args.toArray⟩)) (first | exact s0 | exact s7) (first
                | (go_at_call 8
                   refine HC.out.mono ?_
                   rintro _ z1 ⟨rfl, hz1⟩
                   have HZ1 := hid hz1
                   have s7 : z1.cell? ⟨lb, 0, none⟩ = some (ptr (b false)) ∧ z1.cell? ⟨xb, 0, none⟩ = some (ptr (q false)) ∧ z1.cell? ⟨S, 0, none⟩ = some (.bool p.other) ∧ z1.cell? ⟨S, 1, none⟩ = some (.bool p.near) ∧ z1.cell? ⟨S, 2, none⟩ = some (.bool p.none) ∧ z1.cell? ⟨S, 3, none⟩ = some (.int .i64 p.what) ∧ z1.cell? ⟨S, 4, none⟩ = some (.int .i64 p.prog) ∧ z1.cell? ⟨S, 5, none⟩ = some (.int .i64 p.vers) ∧ z1.cell? ⟨S, 6, none⟩ = some (.int .i64 p.proc) ∧ z1.cell? ⟨S, 7, none⟩ = some (.slice p.oa p.procs.length p.cap) ∧ z1.cell? ⟨S, 8, none⟩ = some (.string ⟨p.args.toArray⟩) := by
                     obtain ⟨a0, a1, a2, a3, a4, a5, a6, a7, a8⟩ := op_cells (HZ1.out.cells)
                     exact ⟨HZ1.out.lc.1, HZ1.out.lc.2.2.1, a0, a1, a2, a3, a4, a5, a6, a7, a8⟩
                   clear hz1))
              go_wp2
              go_roundw
              case rel => exact ⟨i + 1, by first | rfl | (rw [hw]; rfl), hlt, HZ1.out.x⟩
              case measure => exact meas (by first | rfl | exact hw) i1
          by_cases hk2 : p.what = 2
          · as_aux_lemma =>
              have hk := hk2
              have hw := HWJ.out
              have w0 : (p.what == 0) = false := by simp; omega
              have w1 : (p.what == 1) = false := by simp; omega
              have w2' : (p.what == 2) = true := by simpa using hk
              clear hk hk0 hk1 hk2
              have s0 : e9.drew.cell? ⟨lb, 0, none⟩ = some (ptr (b false)) ∧ e9.drew.cell? ⟨xb, 0, none⟩ = some (ptr (q false)) ∧ e9.drew.cell? ⟨S, 0, none⟩ = some (.bool p.other) ∧ e9.drew.cell? ⟨S, 1, none⟩ = some (.bool p.near) ∧ e9.drew.cell? ⟨S, 2, none⟩ = some (.bool p.none) ∧ e9.drew.cell? ⟨S, 3, none⟩ = some (.int .i64 p.what) ∧ e9.drew.cell? ⟨S, 4, none⟩ = some (.int .i64 p.prog) ∧ e9.drew.cell? ⟨S, 5, none⟩ = some (.int .i64 p.vers) ∧ e9.drew.cell? ⟨S, 6, none⟩ = some (.int .i64 p.proc) ∧ e9.drew.cell? ⟨S, 7, none⟩ = some (.slice p.oa p.procs.length p.cap) ∧ e9.drew.cell? ⟨S, 8, none⟩ = some (.string ⟨p.args.toArray⟩) := by
                obtain ⟨a0, a1, a2, a3, a4, a5, a6, a7, a8⟩ := op_cells (HZP.out.drew.cells)
                exact ⟨HZP.out.drew.lc.1, HZP.out.drew.lc.2.2.1, a0, a1, a2, a3, a4, a5, a6, a7, a8⟩
              obtain ⟨R, hR1, hR2⟩ := HZP.out.drew.find false
              have HR1 := hid hR1
              have HR2 := hid hR2
              clear hR1 hR2
              obtain ⟨R0, R1, R2⟩ := R
              go_wp2_with fail
              go_region_held3 (fun w' => w'.cell? ⟨lb, 0, none⟩ = some (ptr (b false)) ∧ w'.cell? ⟨xb, 0, none⟩ = some (ptr (q false)) ∧ w'.cell? ⟨S, 0, none⟩ = some (.bool p.other) ∧ w'.cell? ⟨S, 1, none⟩ = some (.bool p.near) ∧ w'.cell? ⟨S, 2, none⟩ = some (.bool p.none) ∧ w'.cell? ⟨S, 3, none⟩ = some (.int .i64 p.what) ∧ w'.cell? ⟨S, 4, none⟩ = some (.int .i64 p.prog) ∧ w'.cell? ⟨S, 5, none⟩ = some (.int .i64 p.vers) ∧ w'.cell? ⟨S, 6, none⟩ = some (.int .i64 p.proc) ∧ w'.cell? ⟨S, 7, none⟩ = some (.slice p.oa p.procs.length p.cap) ∧ w'.cell? ⟨S, 8, none⟩ = some (.string ⟨p.args.toArray⟩)) (first | exact s0 | exact s7) (first
                | (go_at_call 9
                   refine (HR1.out _ (Below.refl _ _)).mono ?_
                   rintro _ z1 ⟨rfl, hz1⟩
                   have HZ1 := hid (HZP.out.drew.below hz1)
                   have HBZ1 := hid hz1
                   have s7 : z1.cell? ⟨lb, 0, none⟩ = some (ptr (b false)) ∧ z1.cell? ⟨xb, 0, none⟩ = some (ptr (q false)) ∧ z1.cell? ⟨S, 0, none⟩ = some (.bool p.other) ∧ z1.cell? ⟨S, 1, none⟩ = some (.bool p.near) ∧ z1.cell? ⟨S, 2, none⟩ = some (.bool p.none) ∧ z1.cell? ⟨S, 3, none⟩ = some (.int .i64 p.what) ∧ z1.cell? ⟨S, 4, none⟩ = some (.int .i64 p.prog) ∧ z1.cell? ⟨S, 5, none⟩ = some (.int .i64 p.vers) ∧ z1.cell? ⟨S, 6, none⟩ = some (.int .i64 p.proc) ∧ z1.cell? ⟨S, 7, none⟩ = some (.slice p.oa p.procs.length p.cap) ∧ z1.cell? ⟨S, 8, none⟩ = some (.string ⟨p.args.toArray⟩) := by
                     obtain ⟨a0, a1, a2, a3, a4, a5, a6, a7, a8⟩ := op_cells (HZ1.out.cells)
                     exact ⟨HZ1.out.lc.1, HZ1.out.lc.2.2.1, a0, a1, a2, a3, a4, a5, a6, a7, a8⟩
                   clear hz1))
              clear s0
              have t0 : z1.drew.cell? ⟨lb, 0, none⟩ = some (ptr (b false)) ∧ z1.drew.cell? ⟨xb, 0, none⟩ = some (ptr (q false)) ∧ z1.drew.cell? ⟨S, 0, none⟩ = some (.bool p.other) ∧ z1.drew.cell? ⟨S, 1, none⟩ = some (.bool p.near) ∧ z1.drew.cell? ⟨S, 2, none⟩ = some (.bool p.none) ∧ z1.drew.cell? ⟨S, 3, none⟩ = some (.int .i64 p.what) ∧ z1.drew.cell? ⟨S, 4, none⟩ = some (.int .i64 p.prog) ∧ z1.drew.cell? ⟨S, 5, none⟩ = some (.int .i64 p.vers) ∧ z1.drew.cell? ⟨S, 6, none⟩ = some (.int .i64 p.proc) ∧ z1.drew.cell? ⟨S, 7, none⟩ = some (.slice p.oa p.procs.length p.cap) ∧ z1.drew.cell? ⟨S, 8, none⟩ = some (.string ⟨p.args.toArray⟩) := by
                obtain ⟨a0, a1, a2, a3, a4, a5, a6, a7, a8⟩ := op_cells (HZ1.out.drew.cells)
                exact ⟨HZ1.out.drew.lc.1, HZ1.out.drew.lc.2.2.1, a0, a1, a2, a3, a4, a5, a6, a7, a8⟩
              have HBD : Hid (Below e9.drew.heap.size e9.drew z1.drew) := ⟨HBZ1.out.os, HBZ1.out.tape, HBZ1.out.output, HBZ1.out.size, HBZ1.out.block⟩
              go_wp2_with fail
              go_region_held3 (fun w' => w'.cell? ⟨lb, 0, none⟩ = some (ptr (b false)) ∧ w'.cell? ⟨xb, 0, none⟩ = some (ptr (q false)) ∧ w'.cell? ⟨S, 0, none⟩ = some (.bool p.other) ∧ w'.cell? ⟨S, 1, none⟩ = some (.bool p.near) ∧ w'.cell? ⟨S, 2, none⟩ = some (.bool p.none) ∧ w'.cell? ⟨S, 3, none⟩ = some (.int .i64 p.what) ∧ w'.cell? ⟨S, 4, none⟩ = some (.int .i64 p.prog) ∧ w'.cell? ⟨S, 5, none⟩ = some (.int .i64 p.vers) ∧ w'.cell? ⟨S, 6, none⟩ = some (.int .i64 p.proc) ∧ w'.cell? ⟨S, 7, none⟩ = some (.slice p.oa p.procs.length p.cap) ∧ w'.cell? ⟨S, 8, none⟩ = some (.string ⟨p.args.toArray⟩)) (first | exact t0 | exact t7) (first
                | (go_at_call 10
                   refine (HR2.out _ HBD.out).mono ?_
                   rintro _ z2 ⟨rfl, hz2⟩
                   have HZ2 := hid (HZ1.out.drew.below hz2)
                   have t7 : z2.cell? ⟨lb, 0, none⟩ = some (ptr (b false)) ∧ z2.cell? ⟨xb, 0, none⟩ = some (ptr (q false)) ∧ z2.cell? ⟨S, 0, none⟩ = some (.bool p.other) ∧ z2.cell? ⟨S, 1, none⟩ = some (.bool p.near) ∧ z2.cell? ⟨S, 2, none⟩ = some (.bool p.none) ∧ z2.cell? ⟨S, 3, none⟩ = some (.int .i64 p.what) ∧ z2.cell? ⟨S, 4, none⟩ = some (.int .i64 p.prog) ∧ z2.cell? ⟨S, 5, none⟩ = some (.int .i64 p.vers) ∧ z2.cell? ⟨S, 6, none⟩ = some (.int .i64 p.proc) ∧ z2.cell? ⟨S, 7, none⟩ = some (.slice p.oa p.procs.length p.cap) ∧ z2.cell? ⟨S, 8, none⟩ = some (.string ⟨p.args.toArray⟩) := by
                     obtain ⟨a0, a1, a2, a3, a4, a5, a6, a7, a8⟩ := op_cells (HZ2.out.cells)
                     exact ⟨HZ2.out.lc.1, HZ2.out.lc.2.2.1, a0, a1, a2, a3, a4, a5, a6, a7, a8⟩
                   clear hz2))
              go_wp2
              go_roundw
              case rel => exact ⟨i + 1, by first | rfl | (rw [hw]; rfl), hlt, HZ2.out.x⟩
              case measure => exact meas (by first | rfl | exact hw) i1
          by_cases hk3 : p.what = 3
          · as_aux_lemma =>
              have hk := hk3
              have hw := HWJ.out
              have w0 : (p.what == 0) = false := by simp; omega
              have w1 : (p.what == 1) = false := by simp; omega
              have w2' : (p.what == 2) = false := by simp; omega
              have w3' : (p.what == 3) = true := by simpa using hk
              clear hk hk0 hk1 hk2 hk3
              have s0 : e9.drew.cell? ⟨lb, 0, none⟩ = some (ptr (b false)) ∧ e9.drew.cell? ⟨xb, 0, none⟩ = some (ptr (q false)) ∧ e9.drew.cell? ⟨S, 0, none⟩ = some (.bool p.other) ∧ e9.drew.cell? ⟨S, 1, none⟩ = some (.bool p.near) ∧ e9.drew.cell? ⟨S, 2, none⟩ = some (.bool p.none) ∧ e9.drew.cell? ⟨S, 3, none⟩ = some (.int .i64 p.what) ∧ e9.drew.cell? ⟨S, 4, none⟩ = some (.int .i64 p.prog) ∧ e9.drew.cell? ⟨S, 5, none⟩ = some (.int .i64 p.vers) ∧ e9.drew.cell? ⟨S, 6, none⟩ = some (.int .i64 p.proc) ∧ e9.drew.cell? ⟨S, 7, none⟩ = some (.slice p.oa p.procs.length p.cap) ∧ e9.drew.cell? ⟨S, 8, none⟩ = some (.string ⟨p.args.toArray⟩) := by
                obtain ⟨a0, a1, a2, a3, a4, a5, a6, a7, a8⟩ := op_cells (HZP.out.drew.cells)
                exact ⟨HZP.out.drew.lc.1, HZP.out.drew.lc.2.2.1, a0, a1, a2, a3, a4, a5, a6, a7, a8⟩
              obtain ⟨R, hR1, hR2⟩ := HZP.out.drew.find false
              have HR1 := hid hR1
              have HR2 := hid hR2
              clear hR1 hR2
              obtain ⟨R0, R1, R2⟩ := R
              go_wp2_with fail
              go_region_held3 (fun w' => w'.cell? ⟨lb, 0, none⟩ = some (ptr (b false)) ∧ w'.cell? ⟨xb, 0, none⟩ = some (ptr (q false)) ∧ w'.cell? ⟨S, 0, none⟩ = some (.bool p.other) ∧ w'.cell? ⟨S, 1, none⟩ = some (.bool p.near) ∧ w'.cell? ⟨S, 2, none⟩ = some (.bool p.none) ∧ w'.cell? ⟨S, 3, none⟩ = some (.int .i64 p.what) ∧ w'.cell? ⟨S, 4, none⟩ = some (.int .i64 p.prog) ∧ w'.cell? ⟨S, 5, none⟩ = some (.int .i64 p.vers) ∧ w'.cell? ⟨S, 6, none⟩ = some (.int .i64 p.proc) ∧ w'.cell? ⟨S, 7, none⟩ = some (.slice p.oa p.procs.length p.cap) ∧ w'.cell? ⟨S, 8, none⟩ = some (.string ⟨p.args.toArray⟩)) (first | exact s0 | exact s7) (first
                | (go_at_call 9
                   refine (HR1.out _ (Below.refl _ _)).mono ?_
                   rintro _ z1 ⟨rfl, hz1⟩
                   have HZ1 := hid (HZP.out.drew.below hz1)
                   have HBZ1 := hid hz1
                   have s7 : z1.cell? ⟨lb, 0, none⟩ = some (ptr (b false)) ∧ z1.cell? ⟨xb, 0, none⟩ = some (ptr (q false)) ∧ z1.cell? ⟨S, 0, none⟩ = some (.bool p.other) ∧ z1.cell? ⟨S, 1, none⟩ = some (.bool p.near) ∧ z1.cell? ⟨S, 2, none⟩ = some (.bool p.none) ∧ z1.cell? ⟨S, 3, none⟩ = some (.int .i64 p.what) ∧ z1.cell? ⟨S, 4, none⟩ = some (.int .i64 p.prog) ∧ z1.cell? ⟨S, 5, none⟩ = some (.int .i64 p.vers) ∧ z1.cell? ⟨S, 6, none⟩ = some (.int .i64 p.proc) ∧ z1.cell? ⟨S, 7, none⟩ = some (.slice p.oa p.procs.length p.cap) ∧ z1.cell? ⟨S, 8, none⟩ = some (.string ⟨p.args.toArray⟩) := by
                     obtain ⟨a0, a1, a2, a3, a4, a5, a6, a7, a8⟩ := op_cells (HZ1.out.cells)
                     exact ⟨HZ1.out.lc.1, HZ1.out.lc.2.2.1, a0, a1, a2, a3, a4, a5, a6, a7, a8⟩
                   clear hz1))
              clear s0
              have t0 : z1.drew.cell? ⟨lb, 0, none⟩ = some (ptr (b false)) ∧ z1.drew.cell? ⟨xb, 0, none⟩ = some (ptr (q false)) ∧ z1.drew.cell? ⟨S, 0, none⟩ = some (.bool p.other) ∧ z1.drew.cell? ⟨S, 1, none⟩ = some (.bool p.near) ∧ z1.drew.cell? ⟨S, 2, none⟩ = some (.bool p.none) ∧ z1.drew.cell? ⟨S, 3, none⟩ = some (.int .i64 p.what) ∧ z1.drew.cell? ⟨S, 4, none⟩ = some (.int .i64 p.prog) ∧ z1.drew.cell? ⟨S, 5, none⟩ = some (.int .i64 p.vers) ∧ z1.drew.cell? ⟨S, 6, none⟩ = some (.int .i64 p.proc) ∧ z1.drew.cell? ⟨S, 7, none⟩ = some (.slice p.oa p.procs.length p.cap) ∧ z1.drew.cell? ⟨S, 8, none⟩ = some (.string ⟨p.args.toArray⟩) := by
                obtain ⟨a0, a1, a2, a3, a4, a5, a6, a7, a8⟩ := op_cells (HZ1.out.drew.cells)
                exact ⟨HZ1.out.drew.lc.1, HZ1.out.drew.lc.2.2.1, a0, a1, a2, a3, a4, a5, a6, a7, a8⟩
              have HBD : Hid (Below e9.drew.heap.size e9.drew z1.drew) := ⟨HBZ1.out.os, HBZ1.out.tape, HBZ1.out.output, HBZ1.out.size, HBZ1.out.block⟩
              go_wp2_with fail
              go_region_held3 (fun w' => w'.cell? ⟨lb, 0, none⟩ = some (ptr (b false)) ∧ w'.cell? ⟨xb, 0, none⟩ = some (ptr (q false)) ∧ w'.cell? ⟨S, 0, none⟩ = some (.bool p.other) ∧ w'.cell? ⟨S, 1, none⟩ = some (.bool p.near) ∧ w'.cell? ⟨S, 2, none⟩ = some (.bool p.none) ∧ w'.cell? ⟨S, 3, none⟩ = some (.int .i64 p.what) ∧ w'.cell? ⟨S, 4, none⟩ = some (.int .i64 p.prog) ∧ w'.cell? ⟨S, 5, none⟩ = some (.int .i64 p.vers) ∧ w'.cell? ⟨S, 6, none⟩ = some (.int .i64 p.proc) ∧ w'.cell? ⟨S, 7, none⟩ = some (.slice p.oa p.procs.length p.cap) ∧ w'.cell? ⟨S, 8, none⟩ = some (.string ⟨p.args.toArray⟩)) (first | exact t0 | exact t7) (first
                | (go_at_call 10
                   refine (HR2.out _ HBD.out).mono ?_
                   rintro _ z2 ⟨rfl, hz2⟩
                   have HZ2 := hid (HZ1.out.drew.below hz2)
                   have t7 : z2.cell? ⟨lb, 0, none⟩ = some (ptr (b false)) ∧ z2.cell? ⟨xb, 0, none⟩ = some (ptr (q false)) ∧ z2.cell? ⟨S, 0, none⟩ = some (.bool p.other) ∧ z2.cell? ⟨S, 1, none⟩ = some (.bool p.near) ∧ z2.cell? ⟨S, 2, none⟩ = some (.bool p.none) ∧ z2.cell? ⟨S, 3, none⟩ = some (.int .i64 p.what) ∧ z2.cell? ⟨S, 4, none⟩ = some (.int .i64 p.prog) ∧ z2.cell? ⟨S, 5, none⟩ = some (.int .i64 p.vers) ∧ z2.cell? ⟨S, 6, none⟩ = some (.int .i64 p.proc) ∧ z2.cell? ⟨S, 7, none⟩ = some (.slice p.oa p.procs.length p.cap) ∧ z2.cell? ⟨S, 8, none⟩ = some (.string ⟨p.args.toArray⟩) := by
                     obtain ⟨a0, a1, a2, a3, a4, a5, a6, a7, a8⟩ := op_cells (HZ2.out.cells)
                     exact ⟨HZ2.out.lc.1, HZ2.out.lc.2.2.1, a0, a1, a2, a3, a4, a5, a6, a7, a8⟩
                   clear hz2))
              go_wp2
              go_roundw
              case rel => exact ⟨i + 1, by first | rfl | (rw [hw]; rfl), hlt, HZ2.out.x⟩
              case measure => exact meas (by first | rfl | exact hw) i1
          as_aux_lemma =>
            have hk := hk3
            have hw := HWJ.out
            have w0 : (p.what == 0) = false := by simp; omega
            have w1 : (p.what == 1) = false := by simp; omega
            have w2' : (p.what == 2) = false := by simp; omega
            have w3' : (p.what == 3) = false := by simp; omega
            clear hk hk0 hk1 hk2 hk3
            have s0 : e9.drew.cell? ⟨lb, 0, none⟩ = some (ptr (b false)) ∧ e9.drew.cell? ⟨xb, 0, none⟩ = some (ptr (q false)) ∧ e9.drew.cell? ⟨S, 0, none⟩ = some (.bool p.other) ∧ e9.drew.cell? ⟨S, 1, none⟩ = some (.bool p.near) ∧ e9.drew.cell? ⟨S, 2, none⟩ = some (.bool p.none) ∧ e9.drew.cell? ⟨S, 3, none⟩ = some (.int .i64 p.what) ∧ e9.drew.cell? ⟨S, 4, none⟩ = some (.int .i64 p.prog) ∧ e9.drew.cell? ⟨S, 5, none⟩ = some (.int .i64 p.vers) ∧ e9.drew.cell? ⟨S, 6, none⟩ = some (.int .i64 p.proc) ∧ e9.drew.cell? ⟨S, 7, none⟩ = some (.slice p.oa p.procs.length p.cap) ∧ e9.drew.cell? ⟨S, 8, none⟩ = some (.string ⟨p.args.toArray⟩) := by
              obtain ⟨a0, a1, a2, a3, a4, a5, a6, a7, a8⟩ := op_cells (HZP.out.drew.cells)
              exact ⟨HZP.out.drew.lc.1, HZP.out.drew.lc.2.2.1, a0, a1, a2, a3, a4, a5, a6, a7, a8⟩
            obtain ⟨R, hR1, hR2⟩ := HZP.out.drew.run HLEN.out.2 false
            have HR1 := hid hR1
            have HR2 := hid hR2
            clear hR1 hR2
            obtain ⟨R0, R1⟩ := R
            go_wp2_with fail
            go_region_held3 (fun w' => w'.cell? ⟨lb, 0, none⟩ = some (ptr (b false)) ∧ w'.cell? ⟨xb, 0, none⟩ = some (ptr (q false)) ∧ w'.cell? ⟨S, 0, none⟩ = some (.bool p.other) ∧ w'.cell? ⟨S, 1, none⟩ = some (.bool p.near) ∧ w'.cell? ⟨S, 2, none⟩ = some (.bool p.none) ∧ w'.cell? ⟨S, 3, none⟩ = some (.int .i64 p.what) ∧ w'.cell? ⟨S, 4, none⟩ = some (.int .i64 p.prog) ∧ w'.cell? ⟨S, 5, none⟩ = some (.int .i64 p.vers) ∧ w'.cell? ⟨S, 6, none⟩ = some (.int .i64 p.proc) ∧ w'.cell? ⟨S, 7, none⟩ = some (.slice p.oa p.procs.length p.cap) ∧ w'.cell? ⟨S, 8, none⟩ = some (.string ⟨p.args.toArray⟩)) (first | exact s0 | exact s7) (first
              | (go_at_call 11
                 refine (HR1.out _ (Below.refl _ _)).mono ?_
                 rintro _ z1 ⟨rfl, hz1⟩
                 have HZ1 := hid (HZP.out.drew.below hz1)
                 have HBZ1 := hid hz1
                 have s7 : z1.cell? ⟨lb, 0, none⟩ = some (ptr (b false)) ∧ z1.cell? ⟨xb, 0, none⟩ = some (ptr (q false)) ∧ z1.cell? ⟨S, 0, none⟩ = some (.bool p.other) ∧ z1.cell? ⟨S, 1, none⟩ = some (.bool p.near) ∧ z1.cell? ⟨S, 2, none⟩ = some (.bool p.none) ∧ z1.cell? ⟨S, 3, none⟩ = some (.int .i64 p.what) ∧ z1.cell? ⟨S, 4, none⟩ = some (.int .i64 p.prog) ∧ z1.cell? ⟨S, 5, none⟩ = some (.int .i64 p.vers) ∧ z1.cell? ⟨S, 6, none⟩ = some (.int .i64 p.proc) ∧ z1.cell? ⟨S, 7, none⟩ = some (.slice p.oa p.procs.length p.cap) ∧ z1.cell? ⟨S, 8, none⟩ = some (.string ⟨p.args.toArray⟩) := by
                   obtain ⟨a0, a1, a2, a3, a4, a5, a6, a7, a8⟩ := op_cells (HZ1.out.cells)
                   exact ⟨HZ1.out.lc.1, HZ1.out.lc.2.2.1, a0, a1, a2, a3, a4, a5, a6, a7, a8⟩
                 clear hz1))
            clear s0
            have t0 : z1.drew.cell? ⟨lb, 0, none⟩ = some (ptr (b false)) ∧ z1.drew.cell? ⟨xb, 0, none⟩ = some (ptr (q false)) ∧ z1.drew.cell? ⟨S, 0, none⟩ = some (.bool p.other) ∧ z1.drew.cell? ⟨S, 1, none⟩ = some (.bool p.near) ∧ z1.drew.cell? ⟨S, 2, none⟩ = some (.bool p.none) ∧ z1.drew.cell? ⟨S, 3, none⟩ = some (.int .i64 p.what) ∧ z1.drew.cell? ⟨S, 4, none⟩ = some (.int .i64 p.prog) ∧ z1.drew.cell? ⟨S, 5, none⟩ = some (.int .i64 p.vers) ∧ z1.drew.cell? ⟨S, 6, none⟩ = some (.int .i64 p.proc) ∧ z1.drew.cell? ⟨S, 7, none⟩ = some (.slice p.oa p.procs.length p.cap) ∧ z1.drew.cell? ⟨S, 8, none⟩ = some (.string ⟨p.args.toArray⟩) := by
              obtain ⟨a0, a1, a2, a3, a4, a5, a6, a7, a8⟩ := op_cells (HZ1.out.drew.cells)
              exact ⟨HZ1.out.drew.lc.1, HZ1.out.drew.lc.2.2.1, a0, a1, a2, a3, a4, a5, a6, a7, a8⟩
            have HBD : Hid (Below e9.drew.heap.size e9.drew z1.drew) := ⟨HBZ1.out.os, HBZ1.out.tape, HBZ1.out.output, HBZ1.out.size, HBZ1.out.block⟩
            go_wp2_with fail
            go_region_held3 (fun w' => w'.cell? ⟨lb, 0, none⟩ = some (ptr (b false)) ∧ w'.cell? ⟨xb, 0, none⟩ = some (ptr (q false)) ∧ w'.cell? ⟨S, 0, none⟩ = some (.bool p.other) ∧ w'.cell? ⟨S, 1, none⟩ = some (.bool p.near) ∧ w'.cell? ⟨S, 2, none⟩ = some (.bool p.none) ∧ w'.cell? ⟨S, 3, none⟩ = some (.int .i64 p.what) ∧ w'.cell? ⟨S, 4, none⟩ = some (.int .i64 p.prog) ∧ w'.cell? ⟨S, 5, none⟩ = some (.int .i64 p.vers) ∧ w'.cell? ⟨S, 6, none⟩ = some (.int .i64 p.proc) ∧ w'.cell? ⟨S, 7, none⟩ = some (.slice p.oa p.procs.length p.cap) ∧ w'.cell? ⟨S, 8, none⟩ = some (.string ⟨p.args.toArray⟩)) (first | exact t0 | exact t7) (first
              | (go_at_call 12
                 refine (HR2.out _ HBD.out).mono ?_
                 rintro _ z2 ⟨rfl, hz2⟩
                 have HZ2 := hid (HZ1.out.drew.below hz2)
                 have t7 : z2.cell? ⟨lb, 0, none⟩ = some (ptr (b false)) ∧ z2.cell? ⟨xb, 0, none⟩ = some (ptr (q false)) ∧ z2.cell? ⟨S, 0, none⟩ = some (.bool p.other) ∧ z2.cell? ⟨S, 1, none⟩ = some (.bool p.near) ∧ z2.cell? ⟨S, 2, none⟩ = some (.bool p.none) ∧ z2.cell? ⟨S, 3, none⟩ = some (.int .i64 p.what) ∧ z2.cell? ⟨S, 4, none⟩ = some (.int .i64 p.prog) ∧ z2.cell? ⟨S, 5, none⟩ = some (.int .i64 p.vers) ∧ z2.cell? ⟨S, 6, none⟩ = some (.int .i64 p.proc) ∧ z2.cell? ⟨S, 7, none⟩ = some (.slice p.oa p.procs.length p.cap) ∧ z2.cell? ⟨S, 8, none⟩ = some (.string ⟨p.args.toArray⟩) := by
                   obtain ⟨a0, a1, a2, a3, a4, a5, a6, a7, a8⟩ := op_cells (HZ2.out.cells)
                   exact ⟨HZ2.out.lc.1, HZ2.out.lc.2.2.1, a0, a1, a2, a3, a4, a5, a6, a7, a8⟩
                 clear hz2))
            go_wp2
            go_roundw
            case rel => exact ⟨i + 1, by first | rfl | (rw [hw]; rfl), hlt, HZ2.out.x⟩
            case measure => exact meas (by first | rfl | exact hw) i1
        · rw [hoth] at Y0
          clear hoth
          by_cases hk0 : p.what = 0
          · as_aux_lemma =>
              have hk := hk0
              have hw := HWJ.out
              have w0 : (p.what == 0) = true := by simpa using hk
              clear hk hk0
              have s0 : e9.drew.cell? ⟨lb, 1, none⟩ = some (ptr (b true)) ∧ e9.drew.cell? ⟨xb, 1, none⟩ = some (ptr (q true)) ∧ e9.drew.cell? ⟨S, 0, none⟩ = some (.bool p.other) ∧ e9.drew.cell? ⟨S, 1, none⟩ = some (.bool p.near) ∧ e9.drew.cell? ⟨S, 2, none⟩ = some (.bool p.none) ∧ e9.drew.cell? ⟨S, 3, none⟩ = some (.int .i64 p.what) ∧ e9.drew.cell? ⟨S, 4, none⟩ = some (.int .i64 p.prog) ∧ e9.drew.cell? ⟨S, 5, none⟩ = some (.int .i64 p.vers) ∧ e9.drew.cell? ⟨S, 6, none⟩ = some (.int .i64 p.proc) ∧ e9.drew.cell? ⟨S, 7, none⟩ = some (.slice p.oa p.procs.length p.cap) ∧ e9.drew.cell? ⟨S, 8, none⟩ = some (.string ⟨p.args.toArray⟩) := by
                obtain ⟨a0, a1, a2, a3, a4, a5, a6, a7, a8⟩ := op_cells (HZP.out.drew.cells)
                exact ⟨HZP.out.drew.lc.2.1, HZP.out.drew.lc.2.2.2, a0, a1, a2, a3, a4, a5, a6, a7, a8⟩
              have HC := hid (HZP.out.drew.offer HLEN.out.1 true)
              go_wp2_with fail
              go_region_held3 (fun w' => w'.cell? ⟨lb, 1, none⟩ = some (ptr (b true)) ∧ w'.cell? ⟨xb, 1, none⟩ = some (ptr (q true)) ∧ w'.cell? ⟨S, 0, none⟩ = some (.bool p.other) ∧ w'.cell? ⟨S, 1, none⟩ = some (.bool p.near) ∧ w'.cell? ⟨S, 2, none⟩ = some (.bool p.none) ∧ w'.cell? ⟨S, 3, none⟩ = some (.int .i64 p.what) ∧ w'.cell? ⟨S, 4, none⟩ = some (.int .i64 p.prog) ∧ w'.cell? ⟨S, 5, none⟩ = some (.int .i64 p.vers) ∧ w'.cell? ⟨S, 6, none⟩ = some (.int .i64 p.proc) ∧ w'.cell? ⟨S, 7, none⟩ = some (.slice p.oa p.procs.length p.cap) ∧ w'.cell? ⟨S, 8, none⟩ = some (.string ⟨p.args.toArray⟩)) (first | exact s0 | exact s7) (first
                | (go_at_call 8
                   refine HC.out.mono ?_
                   rintro _ z1 ⟨rfl, hz1⟩
                   have HZ1 := hid hz1
                   have s7 : z1.cell? ⟨lb, 1, none⟩ = some (ptr (b true)) ∧ z1.cell? ⟨xb, 1, none⟩ = some (ptr (q true)) ∧ z1.cell? ⟨S, 0, none⟩ = some (.bool p.other) ∧ z1.cell? ⟨S, 1, none⟩ = some (.bool p.near) ∧ z1.cell? ⟨S, 2, none⟩ = some (.bool p.none) ∧ z1.cell? ⟨S, 3, none⟩ = some (.int .i64 p.what) ∧ z1.cell? ⟨S, 4, none⟩ = some (.int .i64 p.prog) ∧ z1.cell? ⟨S, 5, none⟩ = some (.int .i64 p.vers) ∧ z1.cell? ⟨S, 6, none⟩ = some (.int .i64 p.proc) ∧ z1.cell? ⟨S, 7, none⟩ = some (.slice p.oa p.procs.length p.cap) ∧ z1.cell? ⟨S, 8, none⟩ = some (.string ⟨p.args.toArray⟩) := by
                     obtain ⟨a0, a1, a2, a3, a4, a5, a6, a7, a8⟩ := op_cells (HZ1.out.cells)
                     exact ⟨HZ1.out.lc.2.1, HZ1.out.lc.2.2.2, a0, a1, a2, a3, a4, a5, a6, a7, a8⟩
                   clear hz1))
              go_wp2
              go_roundw
              case rel => exact ⟨i + 1, by first | rfl | (rw [hw]; rfl), hlt, HZ1.out.x⟩
              case measure => exact meas (by first | rfl | exact hw) i1
          by_cases hk1 : p.what = 1
          · as_aux_lemma =>
              have hk := hk1
              have hw := HWJ.out
              have w0 : (p.what == 0) = false := by simp; omega
              have w1 : (p.what == 1) = true := by simpa using hk
              clear hk hk0 hk1
              have s0 : e9.drew.cell? ⟨lb, 1, none⟩ = some (ptr (b true)) ∧ e9.drew.cell? ⟨xb, 1, none⟩ = some (ptr (q true)) ∧ e9.drew.cell? ⟨S, 0, none⟩ = some (.bool p.other) ∧ e9.drew.cell? ⟨S, 1, none⟩ = some (.bool p.near) ∧ e9.drew.cell? ⟨S, 2, none⟩ = some (.bool p.none) ∧ e9.drew.cell? ⟨S, 3, none⟩ = some (.int .i64 p.what) ∧ e9.drew.cell? ⟨S, 4, none⟩ = some (.int .i64 p.prog) ∧ e9.drew.cell? ⟨S, 5, none⟩ = some (.int .i64 p.vers) ∧ e9.drew.cell? ⟨S, 6, none⟩ = some (.int .i64 p.proc) ∧ e9.drew.cell? ⟨S, 7, none⟩ = some (.slice p.oa p.procs.length p.cap) ∧ e9.drew.cell? ⟨S, 8, none⟩ = some (.string ⟨p.args.toArray⟩) := by
                obtain ⟨a0, a1, a2, a3, a4, a5, a6, a7, a8⟩ := op_cells (HZP.out.drew.cells)
                exact ⟨HZP.out.drew.lc.2.1, HZP.out.drew.lc.2.2.2, a0, a1, a2, a3, a4, a5, a6, a7, a8⟩
              have HC := hid (HZP.out.drew.offer HLEN.out.1 true)
              go_wp2_with fail
              go_region_held3 (fun w' => w'.cell? ⟨lb, 1, none⟩ = some (ptr (b true)) ∧ w'.cell? ⟨xb, 1, none⟩ = some (ptr (q true)) ∧ w'.cell? ⟨S, 0, none⟩ = some (.bool p.other) ∧ w'.cell? ⟨S, 1, none⟩ = some (.bool p.near) ∧ w'.cell? ⟨S, 2, none⟩ = some (.bool p.none) ∧ w'.cell? ⟨S, 3, none⟩ = some (.int .i64 p.what) ∧ w'.cell? ⟨S, 4, none⟩ = some (.int .i64 p.prog) ∧ w'.cell? ⟨S, 5, none⟩ = some (.int .i64 p.vers) ∧ w'.cell? ⟨S, 6, none⟩ = some (.int .i64 p.proc) ∧ w'.cell? ⟨S, 7, none⟩ = some (.slice p.oa p.procs.length p.cap) ∧ w'.cell? ⟨S, 8, none⟩ = some (.string ⟨p.args.toArray⟩)) (first | exact s0 | exact s7) (first
                | (go_at_call 8
                   refine HC.out.mono ?_
                   rintro _ z1 ⟨rfl, hz1⟩
                   have HZ1 := hid hz1
                   have s7 : z1.cell? ⟨lb, 1, none⟩ = some (ptr (b true)) ∧ z1.cell? ⟨xb, 1, none⟩ = some (ptr (q true)) ∧ z1.cell? ⟨S, 0, none⟩ = some (.bool p.other) ∧ z1.cell? ⟨S, 1, none⟩ = some (.bool p.near) ∧ z1.cell? ⟨S, 2, none⟩ = some (.bool p.none) ∧ z1.cell? ⟨S, 3, none⟩ = some (.int .i64 p.what) ∧ z1.cell? ⟨S, 4, none⟩ = some (.int .i64 p.prog) ∧ z1.cell? ⟨S, 5, none⟩ = some (.int .i64 p.vers) ∧ z1.cell? ⟨S, 6, none⟩ = some (.int .i64 p.proc) ∧ z1.cell? ⟨S, 7, none⟩ = some (.slice p.oa p.procs.length p.cap) ∧ z1.cell? ⟨S, 8, none⟩ = some (.string ⟨p.args.toArray⟩) := by
                     obtain ⟨a0, a1, a2, a3, a4, a5, a6, a7, a8⟩ := op_cells (HZ1.out.cells)
                     exact ⟨HZ1.out.lc.2.1, HZ1.out.lc.2.2.2, a0, a1, a2, a3, a4, a5, a6, a7, a8⟩
                   clear hz1))
              go_wp2
              go_roundw
              case rel => exact ⟨i + 1, by first | rfl | (rw [hw]; rfl), hlt, HZ1.out.x⟩
              case measure => exact meas (by first | rfl | exact hw) i1
          by_cases hk2 : p.what = 2
          · as_aux_lemma =>
              have hk := hk2
              have hw := HWJ.out
              have w0 : (p.what == 0) = false := by simp; omega
              have w1 : (p.what == 1) = false := by simp; omega
              have w2' : (p.what == 2) = true := by simpa using hk
              clear hk hk0 hk1 hk2
              have s0 : e9.drew.cell? ⟨lb, 1, none⟩ = some (ptr (b true)) ∧ e9.drew.cell? ⟨xb, 1, none⟩ = some (ptr (q true)) ∧ e9.drew.cell? ⟨S, 0, none⟩ = some (.bool p.other) ∧ e9.drew.cell? ⟨S, 1, none⟩ = some (.bool p.near) ∧ e9.drew.cell? ⟨S, 2, none⟩ = some (.bool p.none) ∧ e9.drew.cell? ⟨S, 3, none⟩ = some (.int .i64 p.what) ∧ e9.drew.cell? ⟨S, 4, none⟩ = some (.int .i64 p.prog) ∧ e9.drew.cell? ⟨S, 5, none⟩ = some (.int .i64 p.vers) ∧ e9.drew.cell? ⟨S, 6, none⟩ = some (.int .i64 p.proc) ∧ e9.drew.cell? ⟨S, 7, none⟩ = some (.slice p.oa p.procs.length p.cap) ∧ e9.drew.cell? ⟨S, 8, none⟩ = some (.string ⟨p.args.toArray⟩) := by
                obtain ⟨a0, a1, a2, a3, a4, a5, a6, a7, a8⟩ := op_cells (HZP.out.drew.cells)
                exact ⟨HZP.out.drew.lc.2.1, HZP.out.drew.lc.2.2.2, a0, a1, a2, a3, a4, a5, a6, a7, a8⟩
              obtain ⟨R, hR1, hR2⟩ := HZP.out.drew.find true
              have HR1 := hid hR1
              have HR2 := hid hR2
              clear hR1 hR2
              obtain ⟨R0, R1, R2⟩ := R
              go_wp2_with fail
              go_region_held3 (fun w' => w'.cell? ⟨lb, 1, none⟩ = some (ptr (b true)) ∧ w'.cell? ⟨xb, 1, none⟩ = some (ptr (q true)) ∧ w'.cell? ⟨S, 0, none⟩ = some (.bool p.other) ∧ w'.cell? ⟨S, 1, none⟩ = some (.bool p.near) ∧ w'.cell? ⟨S, 2, none⟩ = some (.bool p.none) ∧ w'.cell? ⟨S, 3, none⟩ = some (.int .i64 p.what) ∧ w'.cell? ⟨S, 4, none⟩ = some (.int .i64 p.prog) ∧ w'.cell? ⟨S, 5, none⟩ = some (.int .i64 p.vers) ∧ w'.cell? ⟨S, 6, none⟩ = some (.int .i64 p.proc) ∧ w'.cell? ⟨S, 7, none⟩ = some (.slice p.oa p.procs.length p.cap) ∧ w'.cell? ⟨S, 8, none⟩ = some (.string ⟨p.args.toArray⟩)) (first | exact s0 | exact s7) (first
                | (go_at_call 9
                   refine (HR1.out _ (Below.refl _ _)).mono ?_
                   rintro _ z1 ⟨rfl, hz1⟩
                   have HZ1 := hid (HZP.out.drew.below hz1)
                   have HBZ1 := hid hz1
                   have s7 : z1.cell? ⟨lb, 1, none⟩ = some (ptr (b true)) ∧ z1.cell? ⟨xb, 1, none⟩ = some (ptr (q true)) ∧ z1.cell? ⟨S, 0, none⟩ = some (.bool p.other) ∧ z1.cell? ⟨S, 1, none⟩ = some (.bool p.near) ∧ z1.cell? ⟨S, 2, none⟩ = some (.bool p.none) ∧ z1.cell? ⟨S, 3, none⟩ = some (.int .i64 p.what) ∧ z1.cell? ⟨S, 4, none⟩ = some (.int .i64 p.prog) ∧ z1.cell? ⟨S, 5, none⟩ = some (.int .i64 p.vers) ∧ z1.cell? ⟨S, 6, none⟩ = some (.int .i64 p.proc) ∧ z1.cell? ⟨S, 7, none⟩ = some (.slice p.oa p.procs.length p.cap) ∧ z1.cell? ⟨S, 8, none⟩ = some (.string ⟨p.args.toArray⟩) := by
                     obtain ⟨a0, a1, a2, a3, a4, a5, a6, a7, a8⟩ := op_cells (HZ1.out.cells)
                     exact ⟨HZ1.out.lc.2.1, HZ1.out.lc.2.2.2, a0, a1, a2, a3, a4, a5, a6, a7, a8⟩
                   clear hz1))
              clear s0
              have t0 : z1.drew.cell? ⟨lb, 1, none⟩ = some (ptr (b true)) ∧ z1.drew.cell? ⟨xb, 1, none⟩ = some (ptr (q true)) ∧ z1.drew.cell? ⟨S, 0, none⟩ = some (.bool p.other) ∧ z1.drew.cell? ⟨S, 1, none⟩ = some (.bool p.near) ∧ z1.drew.cell? ⟨S, 2, none⟩ = some (.bool p.none) ∧ z1.drew.cell? ⟨S, 3, none⟩ = some (.int .i64 p.what) ∧ z1.drew.cell? ⟨S, 4, none⟩ = some (.int .i64 p.prog) ∧ z1.drew.cell? ⟨S, 5, none⟩ = some (.int .i64 p.vers) ∧ z1.drew.cell? ⟨S, 6, none⟩ = some (.int .i64 p.proc) ∧ z1.drew.cell? ⟨S, 7, none⟩ = some (.slice p.oa p.procs.length p.cap) ∧ z1.drew.cell? ⟨S, 8, none⟩ = some (.string ⟨p.args.toArray⟩) := by
                obtain ⟨a0, a1, a2, a3, a4, a5, a6, a7, a8⟩ := op_cells (HZ1.out.drew.cells)
                exact ⟨HZ1.out.drew.lc.2.1, HZ1.out.drew.lc.2.2.2, a0, a1, a2, a3, a4, a5, a6, a7, a8⟩
              have HBD : Hid (Below e9.drew.heap.size e9.drew z1.drew) := ⟨HBZ1.out.os, HBZ1.out.tape, HBZ1.out.output, HBZ1.out.size, HBZ1.out.block⟩
              go_wp2_with fail
              go_region_held3 (fun w' => w'.cell? ⟨lb, 1, none⟩ = some (ptr (b true)) ∧ w'.cell? ⟨xb, 1, none⟩ = some (ptr (q true)) ∧ w'.cell? ⟨S, 0, none⟩ = some (.bool p.other) ∧ w'.cell? ⟨S, 1, none⟩ = some (.bool p.near) ∧ w'.cell? ⟨S, 2, none⟩ = some (.bool p.none) ∧ w'.cell? ⟨S, 3, none⟩ = some (.int .i64 p.what) ∧ w'.cell? ⟨S, 4, none⟩ = some (.int .i64 p.prog) ∧ w'.cell? ⟨S, 5, none⟩ = some (.int .i64 p.vers) ∧ w'.cell? ⟨S, 6, none⟩ = some (.int .i64 p.proc) ∧ w'.cell? ⟨S, 7, none⟩ = some (.slice p.oa p.procs.length p.cap) ∧ w'.cell? ⟨S, 8, none⟩ = some (.string ⟨p.args.toArray⟩)) (first | exact t0 | exact t7) (first
                | (go_at_call 10
                   refine (HR2.out _ HBD.out).mono ?_
                   rintro _ z2 ⟨rfl, hz2⟩
                   have HZ2 := hid (HZ1.out.drew.below hz2)
                   have t7 : z2.cell? ⟨lb, 1, none⟩ = some (ptr (b true)) ∧ z2.cell? ⟨xb, 1, none⟩ = some (ptr (q true)) ∧ z2.cell? ⟨S, 0, none⟩ = some (.bool p.other) ∧ z2.cell? ⟨S, 1, none⟩ = some (.bool p.near) ∧ z2.cell? ⟨S, 2, none⟩ = some (.bool p.none) ∧ z2.cell? ⟨S, 3, none⟩ = some (.int .i64 p.what) ∧ z2.cell? ⟨S, 4, none⟩ = some (.int .i64 p.prog) ∧ z2.cell? ⟨S, 5, none⟩ = some (.int .i64 p.vers) ∧ z2.cell? ⟨S, 6, none⟩ = some (.int .i64 p.proc) ∧ z2.cell? ⟨S, 7, none⟩ = some (.slice p.oa p.procs.length p.cap) ∧ z2.cell? ⟨S, 8, none⟩ = some (.string ⟨p.args.toArray⟩) := by
                     obtain ⟨a0, a1, a2, a3, a4, a5, a6, a7, a8⟩ := op_cells (HZ2.out.cells)
                     exact ⟨HZ2.out.lc.2.1, HZ2.out.lc.2.2.2, a0, a1, a2, a3, a4, a5, a6, a7, a8⟩
                   clear hz2))
              go_wp2
              go_roundw
              case rel => exact ⟨i + 1, by first | rfl | (rw [hw]; rfl), hlt, HZ2.out.x⟩
              case measure => exact meas (by first | rfl | exact hw) i1
          by_cases hk3 : p.what = 3
          · as_aux_lemma =>
              have hk := hk3
              have hw := HWJ.out
              have w0 : (p.what == 0) = false := by simp; omega
              have w1 : (p.what == 1) = false := by simp; omega
              have w2' : (p.what == 2) = false := by simp; omega
              have w3' : (p.what == 3) = true := by simpa using hk
              clear hk hk0 hk1 hk2 hk3
              have s0 : e9.drew.cell? ⟨lb, 1, none⟩ = some (ptr (b true)) ∧ e9.drew.cell? ⟨xb, 1, none⟩ = some (ptr (q true)) ∧ e9.drew.cell? ⟨S, 0, none⟩ = some (.bool p.other) ∧ e9.drew.cell? ⟨S, 1, none⟩ = some (.bool p.near) ∧ e9.drew.cell? ⟨S, 2, none⟩ = some (.bool p.none) ∧ e9.drew.cell? ⟨S, 3, none⟩ = some (.int .i64 p.what) ∧ e9.drew.cell? ⟨S, 4, none⟩ = some (.int .i64 p.prog) ∧ e9.drew.cell? ⟨S, 5, none⟩ = some (.int .i64 p.vers) ∧ e9.drew.cell? ⟨S, 6, none⟩ = some (.int .i64 p.proc) ∧ e9.drew.cell? ⟨S, 7, none⟩ = some (.slice p.oa p.procs.length p.cap) ∧ e9.drew.cell? ⟨S, 8, none⟩ = some (.string ⟨p.args.toArray⟩) := by
                obtain ⟨a0, a1, a2, a3, a4, a5, a6, a7, a8⟩ := op_cells (HZP.out.drew.cells)
                exact ⟨HZP.out.drew.lc.2.1, HZP.out.drew.lc.2.2.2, a0, a1, a2, a3, a4, a5, a6, a7, a8⟩
              obtain ⟨R, hR1, hR2⟩ := HZP.out.drew.find true
              have HR1 := hid hR1
              have HR2 := hid hR2
              clear hR1 hR2
              obtain ⟨R0, R1, R2⟩ := R
              go_wp2_with fail
              go_region_held3 (fun w' => w'.cell? ⟨lb, 1, none⟩ = some (ptr (b true)) ∧ w'.cell? ⟨xb, 1, none⟩ = some (ptr (q true)) ∧ w'.cell? ⟨S, 0, none⟩ = some (.bool p.other) ∧ w'.cell? ⟨S, 1, none⟩ = some (.bool p.near) ∧ w'.cell? ⟨S, 2, none⟩ = some (.bool p.none) ∧ w'.cell? ⟨S, 3, none⟩ = some (.int .i64 p.what) ∧ w'.cell? ⟨S, 4, none⟩ = some (.int .i64 p.prog) ∧ w'.cell? ⟨S, 5, none⟩ = some (.int .i64 p.vers) ∧ w'.cell? ⟨S, 6, none⟩ = some (.int .i64 p.proc) ∧ w'.cell? ⟨S, 7, none⟩ = some (.slice p.oa p.procs.length p.cap) ∧ w'.cell? ⟨S, 8, none⟩ = some (.string ⟨p.args.toArray⟩)) (first | exact s0 | exact s7) (first
                | (go_at_call 9
                   refine (HR1.out _ (Below.refl _ _)).mono ?_
                   rintro _ z1 ⟨rfl, hz1⟩
                   have HZ1 := hid (HZP.out.drew.below hz1)
                   have HBZ1 := hid hz1
                   have s7 : z1.cell? ⟨lb, 1, none⟩ = some (ptr (b true)) ∧ z1.cell? ⟨xb, 1, none⟩ = some (ptr (q true)) ∧ z1.cell? ⟨S, 0, none⟩ = some (.bool p.other) ∧ z1.cell? ⟨S, 1, none⟩ = some (.bool p.near) ∧ z1.cell? ⟨S, 2, none⟩ = some (.bool p.none) ∧ z1.cell? ⟨S, 3, none⟩ = some (.int .i64 p.what) ∧ z1.cell? ⟨S, 4, none⟩ = some (.int .i64 p.prog) ∧ z1.cell? ⟨S, 5, none⟩ = some (.int .i64 p.vers) ∧ z1.cell? ⟨S, 6, none⟩ = some (.int .i64 p.proc) ∧ z1.cell? ⟨S, 7, none⟩ = some (.slice p.oa p.procs.length p.cap) ∧ z1.cell? ⟨S, 8, none⟩ = some (.string ⟨p.args.toArray⟩) := by
                     obtain ⟨a0, a1, a2, a3, a4, a5, a6, a7, a8⟩ := op_cells (HZ1.out.cells)
                     exact ⟨HZ1.out.lc.2.1, HZ1.out.lc.2.2.2, a0, a1, a2, a3, a4, a5, a6, a7, a8⟩
                   clear hz1))
              clear s0
              have t0 : z1.drew.cell? ⟨lb, 1, none⟩ = some (ptr (b true)) ∧ z1.drew.cell? ⟨xb, 1, none⟩ = some (ptr (q true)) ∧ z1.drew.cell? ⟨S, 0, none⟩ = some (.bool p.other) ∧ z1.drew.cell? ⟨S, 1, none⟩ = some (.bool p.near) ∧ z1.drew.cell? ⟨S, 2, none⟩ = some (.bool p.none) ∧ z1.drew.cell? ⟨S, 3, none⟩ = some (.int .i64 p.what) ∧ z1.drew.cell? ⟨S, 4, none⟩ = some (.int .i64 p.prog) ∧ z1.drew.cell? ⟨S, 5, none⟩ = some (.int .i64 p.vers) ∧ z1.drew.cell? ⟨S, 6, none⟩ = some (.int .i64 p.proc) ∧ z1.drew.cell? ⟨S, 7, none⟩ = some (.slice p.oa p.procs.length p.cap) ∧ z1.drew.cell? ⟨S, 8, none⟩ = some (.string ⟨p.args.toArray⟩) := by
                obtain ⟨a0, a1, a2, a3, a4, a5, a6, a7, a8⟩ := op_cells (HZ1.out.drew.cells)
                exact ⟨HZ1.out.drew.lc.2.1, HZ1.out.drew.lc.2.2.2, a0, a1, a2, a3, a4, a5, a6, a7, a8⟩
              have HBD : Hid (Below e9.drew.heap.size e9.drew z1.drew) := ⟨HBZ1.out.os, HBZ1.out.tape, HBZ1.out.output, HBZ1.out.size, HBZ1.out.block⟩
              go_wp2_with fail
              go_region_held3 (fun w' => w'.cell? ⟨lb, 1, none⟩ = some (ptr (b true)) ∧ w'.cell? ⟨xb, 1, none⟩ = some (ptr (q true)) ∧ w'.cell? ⟨S, 0, none⟩ = some (.bool p.other) ∧ w'.cell? ⟨S, 1, none⟩ = some (.bool p.near) ∧ w'.cell? ⟨S, 2, none⟩ = some (.bool p.none) ∧ w'.cell? ⟨S, 3, none⟩ = some (.int .i64 p.what) ∧ w'.cell? ⟨S, 4, none⟩ = some (.int .i64 p.prog) ∧ w'.cell? ⟨S, 5, none⟩ = some (.int .i64 p.vers) ∧ w'.cell? ⟨S, 6, none⟩ = some (.int .i64 p.proc) ∧ w'.cell? ⟨S, 7, none⟩ = some (.slice p.oa p.procs.length p.cap) ∧ w'.cell? ⟨S, 8, none⟩ = some (.string ⟨p.args.toArray⟩)) (first | exact t0 | exact t7) (first
                | (go_at_call 10
                   refine (HR2.out _ HBD.out).mono ?_
                   rintro _ z2 ⟨rfl, hz2⟩
                   have HZ2 := hid (HZ1.out.drew.below hz2)
                   have t7 : z2.cell? ⟨lb, 1, none⟩ = some (ptr (b true)) ∧ z2.cell? ⟨xb, 1, none⟩ = some (ptr (q true)) ∧ z2.cell? ⟨S, 0, none⟩ = some (.bool p.other) ∧ z2.cell? ⟨S, 1, none⟩ = some (.bool p.near) ∧ z2.cell? ⟨S, 2, none⟩ = some (.bool p.none) ∧ z2.cell? ⟨S, 3, none⟩ = some (.int .i64 p.what) ∧ z2.cell? ⟨S, 4, none⟩ = some (.int .i64 p.prog) ∧ z2.cell? ⟨S, 5, none⟩ = some (.int .i64 p.vers) ∧ z2.cell? ⟨S, 6, none⟩ = some (.int .i64 p.proc) ∧ z2.cell? ⟨S, 7, none⟩ = some (.slice p.oa p.procs.length p.cap) ∧ z2.cell? ⟨S, 8, none⟩ = some (.string ⟨p.args.toArray⟩) := by
                     obtain ⟨a0, a1, a2, a3, a4, a5, a6, a7, a8⟩ := op_cells (HZ2.out.cells)
                     exact ⟨HZ2.out.lc.2.1, HZ2.out.lc.2.2.2, a0, a1, a2, a3, a4, a5, a6, a7, a8⟩
                   clear hz2))
              go_wp2
              go_roundw
              case rel => exact ⟨i + 1, by first | rfl | (rw [hw]; rfl), hlt, HZ2.out.x⟩
              case measure => exact meas (by first | rfl | exact hw) i1
          as_aux_lemma =>
            have hk := hk3
            have hw := HWJ.out
            have w0 : (p.what == 0) = false := by simp; omega
            have w1 : (p.what == 1) = false := by simp; omega
            have w2' : (p.what == 2) = false := by simp; omega
            have w3' : (p.what == 3) = false := by simp; omega
            clear hk hk0 hk1 hk2 hk3
            have s0 : e9.drew.cell? ⟨lb, 1, none⟩ = some (ptr (b true)) ∧ e9.drew.cell? ⟨xb, 1, none⟩ = some (ptr (q true)) ∧ e9.drew.cell? ⟨S, 0, none⟩ = some (.bool p.other) ∧ e9.drew.cell? ⟨S, 1, none⟩ = some (.bool p.near) ∧ e9.drew.cell? ⟨S, 2, none⟩ = some (.bool p.none) ∧ e9.drew.cell? ⟨S, 3, none⟩ = some (.int .i64 p.what) ∧ e9.drew.cell? ⟨S, 4, none⟩ = some (.int .i64 p.prog) ∧ e9.drew.cell? ⟨S, 5, none⟩ = some (.int .i64 p.vers) ∧ e9.drew.cell? ⟨S, 6, none⟩ = some (.int .i64 p.proc) ∧ e9.drew.cell? ⟨S, 7, none⟩ = some (.slice p.oa p.procs.length p.cap) ∧ e9.drew.cell? ⟨S, 8, none⟩ = some (.string ⟨p.args.toArray⟩) := by
              obtain ⟨a0, a1, a2, a3, a4, a5, a6, a7, a8⟩ := op_cells (HZP.out.drew.cells)
              exact ⟨HZP.out.drew.lc.2.1, HZP.out.drew.lc.2.2.2, a0, a1, a2, a3, a4, a5, a6, a7, a8⟩
            obtain ⟨R, hR1, hR2⟩ := HZP.out.drew.run HLEN.out.2 true
            have HR1 := hid hR1
            have HR2 := hid hR2
            clear hR1 hR2
            obtain ⟨R0, R1⟩ := R
            go_wp2_with fail
            go_region_held3 (fun w' => w'.cell? ⟨lb, 1, none⟩ = some (ptr (b true)) ∧ w'.cell? ⟨xb, 1, none⟩ = some (ptr (q true)) ∧ w'.cell? ⟨S, 0, none⟩ = some (.bool p.other) ∧ w'.cell? ⟨S, 1, none⟩ = some (.bool p.near) ∧ w'.cell? ⟨S, 2, none⟩ = some (.bool p.none) ∧ w'.cell? ⟨S, 3, none⟩ = some (.int .i64 p.what) ∧ w'.cell? ⟨S, 4, none⟩ = some (.int .i64 p.prog) ∧ w'.cell? ⟨S, 5, none⟩ = some (.int .i64 p.vers) ∧ w'.cell? ⟨S, 6, none⟩ = some (.int .i64 p.proc) ∧ w'.cell? ⟨S, 7, none⟩ = some (.slice p.oa p.procs.length p.cap) ∧ w'.cell? ⟨S, 8, none⟩ = some (.string ⟨p.args.toArray⟩)) (first | exact s0 | exact s7) (first
              | (go_at_call 11
                 refine (HR1.out _ (Below.refl _ _)).mono ?_
                 rintro _ z1 ⟨rfl, hz1⟩
                 have HZ1 := hid (HZP.out.drew.below hz1)
                 have HBZ1 := hid hz1
                 have s7 : z1.cell? ⟨lb, 1, none⟩ = some (ptr (b true)) ∧ z1.cell? ⟨xb, 1, none⟩ = some (ptr (q true)) ∧ z1.cell? ⟨S, 0, none⟩ = some (.bool p.other) ∧ z1.cell? ⟨S, 1, none⟩ = some (.bool p.near) ∧ z1.cell? ⟨S, 2, none⟩ = some (.bool p.none) ∧ z1.cell? ⟨S, 3, none⟩ = some (.int .i64 p.what) ∧ z1.cell? ⟨S, 4, none⟩ = some (.int .i64 p.prog) ∧ z1.cell? ⟨S, 5, none⟩ = some (.int .i64 p.vers) ∧ z1.cell? ⟨S, 6, none⟩ = some (.int .i64 p.proc) ∧ z1.cell? ⟨S, 7, none⟩ = some (.slice p.oa p.procs.length p.cap) ∧ z1.cell? ⟨S, 8, none⟩ = some (.string ⟨p.args.toArray⟩) := by
                   obtain ⟨a0, a1, a2, a3, a4, a5, a6, a7, a8⟩ := op_cells (HZ1.out.cells)
                   exact ⟨HZ1.out.lc.2.1, HZ1.out.lc.2.2.2, a0, a1, a2, a3, a4, a5, a6, a7, a8⟩
                 clear hz1))
            clear s0
            have t0 : z1.drew.cell? ⟨lb, 1, none⟩ = some (ptr (b true)) ∧ z1.drew.cell? ⟨xb, 1, none⟩ = some (ptr (q true)) ∧ z1.drew.cell? ⟨S, 0, none⟩ = some (.bool p.other) ∧ z1.drew.cell? ⟨S, 1, none⟩ = some (.bool p.near) ∧ z1.drew.cell? ⟨S, 2, none⟩ = some (.bool p.none) ∧ z1.drew.cell? ⟨S, 3, none⟩ = some (.int .i64 p.what) ∧ z1.drew.cell? ⟨S, 4, none⟩ = some (.int .i64 p.prog) ∧ z1.drew.cell? ⟨S, 5, none⟩ = some (.int .i64 p.vers) ∧ z1.drew.cell? ⟨S, 6, none⟩ = some (.int .i64 p.proc) ∧ z1.drew.cell? ⟨S, 7, none⟩ = some (.slice p.oa p.procs.length p.cap) ∧ z1.drew.cell? ⟨S, 8, none⟩ = some (.string ⟨p.args.toArray⟩) := by
              obtain ⟨a0, a1, a2, a3, a4, a5, a6, a7, a8⟩ := op_cells (HZ1.out.drew.cells)
              exact ⟨HZ1.out.drew.lc.2.1, HZ1.out.drew.lc.2.2.2, a0, a1, a2, a3, a4, a5, a6, a7, a8⟩
            have HBD : Hid (Below e9.drew.heap.size e9.drew z1.drew) := ⟨HBZ1.out.os, HBZ1.out.tape, HBZ1.out.output, HBZ1.out.size, HBZ1.out.block⟩
            go_wp2_with fail
            go_region_held3 (fun w' => w'.cell? ⟨lb, 1, none⟩ = some (ptr (b true)) ∧ w'.cell? ⟨xb, 1, none⟩ = some (ptr (q true)) ∧ w'.cell? ⟨S, 0, none⟩ = some (.bool p.other) ∧ w'.cell? ⟨S, 1, none⟩ = some (.bool p.near) ∧ w'.cell? ⟨S, 2, none⟩ = some (.bool p.none) ∧ w'.cell? ⟨S, 3, none⟩ = some (.int .i64 p.what) ∧ w'.cell? ⟨S, 4, none⟩ = some (.int .i64 p.prog) ∧ w'.cell? ⟨S, 5, none⟩ = some (.int .i64 p.vers) ∧ w'.cell? ⟨S, 6, none⟩ = some (.int .i64 p.proc) ∧ w'.cell? ⟨S, 7, none⟩ = some (.slice p.oa p.procs.length p.cap) ∧ w'.cell? ⟨S, 8, none⟩ = some (.string ⟨p.args.toArray⟩)) (first | exact t0 | exact t7) (first
              | (go_at_call 12
                 refine (HR2.out _ HBD.out).mono ?_
                 rintro _ z2 ⟨rfl, hz2⟩
                 have HZ2 := hid (HZ1.out.drew.below hz2)
                 have t7 : z2.cell? ⟨lb, 1, none⟩ = some (ptr (b true)) ∧ z2.cell? ⟨xb, 1, none⟩ = some (ptr (q true)) ∧ z2.cell? ⟨S, 0, none⟩ = some (.bool p.other) ∧ z2.cell? ⟨S, 1, none⟩ = some (.bool p.near) ∧ z2.cell? ⟨S, 2, none⟩ = some (.bool p.none) ∧ z2.cell? ⟨S, 3, none⟩ = some (.int .i64 p.what) ∧ z2.cell? ⟨S, 4, none⟩ = some (.int .i64 p.prog) ∧ z2.cell? ⟨S, 5, none⟩ = some (.int .i64 p.vers) ∧ z2.cell? ⟨S, 6, none⟩ = some (.int .i64 p.proc) ∧ z2.cell? ⟨S, 7, none⟩ = some (.slice p.oa p.procs.length p.cap) ∧ z2.cell? ⟨S, 8, none⟩ = some (.string ⟨p.args.toArray⟩) := by
                   obtain ⟨a0, a1, a2, a3, a4, a5, a6, a7, a8⟩ := op_cells (HZ2.out.cells)
                   exact ⟨HZ2.out.lc.2.1, HZ2.out.lc.2.2.2, a0, a1, a2, a3, a4, a5, a6, a7, a8⟩
                 clear hz2))
            go_wp2
            go_roundw
            case rel => exact ⟨i + 1, by first | rfl | (rw [hw]; rfl), hlt, HZ2.out.x⟩
            case measure => exact meas (by first | rfl | exact hw) i1
    · obtain rfl : i = n := by omega
      have HBE : Hid (Below W.heap.size W wr) := by obtain ⟨K, oa, cap, A, L, v, hh⟩ := HX.out; exact hh.bs.be
      go_wp2
      go_ret
      exact ⟨rfl, HBE.out⟩
end Go.Proofs.Ytcpjihaicmlmjaa
