/- The document's cache: rises. -/
import Derived.Test.YtnpffhgmakbdnaaPlRd
namespace Go.Proofs.Ytnpffhgmakbdnaa
open Go.RowKit
theorem tag_above (K : Nat → Nat) : ∀ n t : Nat, ∃ τ, t < τ ∧ ∀ b, b < n → K b < τ
  | 0, t => ⟨t + 1, by omega, fun b hb => by omega⟩
  | n + 1, t => by
    obtain ⟨τ, h1, h2⟩ := tag_above K n t
    refine ⟨max τ (K n + 1), by omega, fun b hb => ?_⟩
    by_cases e : b = n
    · subst e; omega
    · have := h2 b (by omega); omega
theorem bls69 (w : World) (a i s : Int) (d : Bool) (r : ByteArray) : (Instr.buildSlice 69 1 #[(0, .agg #[.int .i64 a, .int .i64 i, .int .i64 s, .bool d, .string r])]).run Try.prog w = .ok (.slice (some ⟨w.heap.size, 0, none⟩) 1 1) (w.alloc (.cells #[.int .i64 a, .int .i64 i, .int .i64 s, .bool d, .string r] 92)) := by kernel_rfl
theorem sn_one (x : Sn) : ∀ u ∈ snC x, u.oneCell' = true := fun u hu => by simp [snC] at hu; rcases hu with rfl | rfl | rfl | rfl | rfl <;> rfl
theorem kn_one (x : Kn) : ∀ u ∈ knC x, u.oneCell' = true := fun u hu => by simp [knC] at hu; rcases hu with rfl | rfl | rfl <;> rfl
theorem appN {K : Nat → Nat} {w : World} {B t : Nat} {v : Value} {l : List Sn} (h : RW 92 5 snC K w B t v l) (hB : B ≤ w.heap.size) {N : Nat} (x : Sn) (hb : w.heap[N]? = some (.cells #[.int .i64 x.a, .int .i64 x.i, .int .i64 x.seq, .bool x.dn, .string x.rep] 92 (0, 0))) (hm : l.length ≤ 1000000) :
    ∃ v' w' K', (∀ r, (Builtin.append_ #[69, 69] r #[v, .slice (some ⟨N, 0, none⟩) 1 1]).run Try.prog w = .ok v' w') ∧ RW 92 5 snC K' w' B t v' (l ++ [x]) ∧ Mv (fun x => x = t) w w' K K' := by
  obtain ⟨i', hi, hz, hs, hby⟩ := info92
  exact h.app Try.underlying69 hi hz hs hby rfl (by omega) snL sn_one hB (x := x) rfl hb (by omega) (by omega)
theorem appK {K : Nat → Nat} {w : World} {B t : Nat} {v : Value} {l : List Kn} (h : RW 88 3 knC K w B t v l) (hB : B ≤ w.heap.size) {N : Nat} (x : Kn) (hb : w.heap[N]? = some (.cells #[.int .i64 x.a, .int .i64 x.i, .int .i64 x.water] 88 (0, 0))) (hm : l.length ≤ 1000000) :
    ∃ v' w' K', (∀ r, (Builtin.append_ #[68, 68] r #[v, .slice (some ⟨N, 0, none⟩) 1 1]).run Try.prog w = .ok v' w') ∧ RW 88 3 knC K' w' B t v' (l ++ [x]) ∧ Mv (fun x => x = t) w w' K K' := by
  obtain ⟨i', hi, hz, hs, hby⟩ := info88
  exact h.app Try.underlying68 hi hz hs hby rfl (by omega) knL kn_one hB (x := x) rfl hb (by omega) (by omega)
def stay (y : Kn) (water : Int) (z : Sn) : Bool := !(z.a == y.a && z.i == y.i) || decide (water ≤ z.seq)
theorem stay_take (y : Kn) (water : Int) (I : List Sn) (j : Nat) (z : Sn) (hz : I[j]? = some z) : (I.take (j + 1)).filter (stay y water) = (I.take j).filter (stay y water) ++ (if stay y water z = true then [z] else []) := by
  rw [List.take_add_one, hz, List.filter_append]
  congr 1
  by_cases e : stay y water z = true <;> simp [e]
/-- while the items are gathered -/
structure RS (W : World) (K0 : Nat → Nat) (B t x : Nat) (g : Cf) (v1 v2 : Value) (L : List Kn) (I : List Sn) (τ : Nat) (K : Nat → Nat) (w : World) (v6 : Value) (l : List Sn) : Prop where
  dc : DC K w B t x g v1 v2 L I
  r : RW 92 5 snC K w W.heap.size τ v6 l
  mv : Mv (fun y => y = t + 1 ∨ y = τ) W w K0 K
section
variable {K K0 K' : Nat → Nat} {W w w' : World} {B t x τ : Nat} {g : Cf} {v1 v2 v6 : Value} {L : List Kn} {I l : List Sn}
theorem RS.drewN (h : RS W K0 B t x g v1 v2 L I τ K w v6 l) (n : Nat) : RS W K0 B t x g v1 v2 L I τ K (w.drewN n) v6 l := by
  have m : Mv (fun _ => False) w (w.drewN n) K K := ⟨rfl, rfl, rfl, Nat.le_refl _, fun _ _ => rfl, fun _ _ _ => rfl⟩
  exact ⟨h.dc.mv m id id id, h.r.mv m id, h.mv.trans (m.mono (fun _ h => h.elim))⟩
theorem RS.app (h : RS W K0 B t x g v1 v2 L I τ K w v6 l) (hτ : t + 2 < τ) (z : Sn) (hm : l.length ≤ 1000000) :
    ∃ v' w' K', (∀ r, (Builtin.append_ #[69, 69] r #[v6, .slice (some ⟨w.heap.size, 0, none⟩) 1 1]).run Try.prog (w.alloc (.cells #[.int .i64 z.a, .int .i64 z.i, .int .i64 z.seq, .bool z.dn, .string z.rep] 92)) = .ok v' w') ∧ RS W K0 B t x g v1 v2 L I τ K' w' v' (l ++ [z]) := by
  have m1 := Mv.alloc w K (fun _ => τ) (.cells #[.int .i64 z.a, .int .i64 z.i, .int .i64 z.seq, .bool z.dn, .string z.rep] 92)
  obtain ⟨v', w', K', q1, q2, q3⟩ := appN (h.r.mv m1 id) (Nat.le_trans h.mv.size m1.size) z (MapKept.heap_alloc w _).1 hm
  exact ⟨v', w', K', q1, ⟨(h.dc.mv m1 id id id).mv q3 (by omega) (by omega) (by omega), q2, h.mv.trans ((m1.mono (fun _ h => h.elim)).trans (q3.mono (fun _ h => .inr h)))⟩⟩
theorem RS.done (h : RS W K0 B t x g v1 v2 L I τ K w v6 l) (hx : x < W.heap.size) (hg : ∀ g, v1.ownBlock = some g → g < W.heap.size) (hτ : t + 2 < τ) (hb : ∀ b, b < W.heap.size → K0 b < τ) (hB : B ≤ W.heap.size) :
    ∃ K', DC K' (w.setCell ⟨x, 5, none⟩ v6) B t x g v1 v6 L l ∧ Mv (T3 t) W (w.setCell ⟨x, 5, none⟩ v6) K0 K' := by
  have hs := h.mv.size
  have hold := h.mv.old
  have k0 : ∀ b, b < W.heap.size → ext W K0 (fun _ => t + 2) b = K b := fun b hb => (ext_old hb).trans (hold b hb).symm
  have hxk := h.dc.me.k
  have hne : ∀ b, K b ≠ t → b ≠ x := fun b hb e => hb (by rw [e]; exact hxk)
  refine ⟨ext W K0 (fun _ => t + 2), ⟨⟨?_, (k0 x hx).trans hxk⟩, ⟨own_block h.dc.l.own fun b hb2 => Below.heap_setCell _ _ _ _ (hne b (by rw [h.dc.l.k b hb2]; omega)), fun b hb2 => (k0 b (hg b hb2)).trans (h.dc.l.k b hb2)⟩, ⟨?_, fun b hb2 => ext_new (h.r.own.lt b hb2).1⟩⟩, ⟨h.mv.os, h.mv.tape, h.mv.output, by simpa using hs, fun b hb => ext_old hb, fun b hb2 ht => ?_⟩⟩
  · unfold World.setCell; simp [Array.getElem?_modify, h.dc.me.at_]
  · exact own_mono (own_block h.r.own fun b hb2 => Below.heap_setCell _ _ _ _ (hne b (by rw [h.r.k b hb2]; omega))) hB
  · have h1 := hb b hb2
    have h2 : b ≠ x := hne b (by rw [hold b hb2]; exact fun e => ht (.inl e))
    refine (Below.heap_setCell _ _ _ _ h2).trans (h.mv.kept b hb2 ?_)
    rintro (e | e)
    · exact ht (.inr (.inl e))
    · omega
end
set_option maxRecDepth 4000 in
theorem rises_any {K : Nat → Nat} {w : World} {B t x : Nat} {g : Cf} {v1 v2 : Value} {L1 L2 : List Kn} {y : Kn} {I : List Sn} (h : DC K w B t x g v1 v2 (L1 ++ y :: L2) I) (hB : B ≤ w.heap.size) (hl : I.length ≤ 1000000) (water : Int) :
    Calls Try.prog 37 #[ptr x, .int .i64 (L1.length : Nat), .int .i64 water] w fun e w' => e = .returned (.tuple #[]) ∧ ∃ K' v1' v2', DC K' w' B t x g v1' v2' (L1 ++ { y with water := water } :: L2) (I.filter (stay y water)) ∧ Mv (T3 t) w w' K K' := by
  obtain ⟨τ, hτ, hτb⟩ := tag_above K w.heap.size (t + 2)
  obtain ⟨oa, cap, e1, _, hg1⟩ := h.l.form
  obtain ⟨g1, hg1⟩ := hg1 (by simp; omega)
  subst e1 hg1
  have hlr := h.l
  obtain ⟨n, hn⟩ : ∃ n, (L1 ++ y :: L2).length = n := ⟨_, rfl⟩
  rw [hn] at hlr
  obtain ⟨s1, q1⟩ := hlr.set1 knL hn 2 (.int .i64 water) (x' := { y with water := water }) (by omega) rfl
  have o1 := hlr.own
  rw [hn] at o1
  have ff := o1.frozenAt (L1.length * 3 + 2)
  have c2 : w.cell? ⟨g1, L1.length * 3 + 2, none⟩ = some (.int .i64 y.water) := hlr.cell knL hn (by simp) 2 (by omega)
  have c4 := h.c4
  rw [hn] at c4
  obtain ⟨w1, hw1⟩ : ∃ w1, w.setCell ⟨g1, L1.length * 3 + 2, none⟩ (.int .i64 water) = w1 := ⟨_, rfl⟩
  rw [hw1] at s1 q1
  have hlt1 : g1 < w.heap.size := (h.l.own.lt g1 rfl).2
  have hn2 : (L1 ++ { y with water := water } :: L2).length = n := by rw [← hn]; simp
  have h1 : DC K w1 B t x g (.slice (some ⟨g1, 0, none⟩) n cap) v2 (L1 ++ { y with water := water } :: L2) I := by
    have hm := h.me
    rw [hn] at hm
    exact ⟨hm.mv q1 (by omega), s1, h.i.mv q1 (by omega)⟩
  have HR : Hid (RS w K B t x g (.slice (some ⟨g1, 0, none⟩) n cap) v2 (L1 ++ { y with water := water } :: L2) I τ K w1 (.slice none 0 0) ((I.take 0).filter (stay y water))) :=
    ⟨h1, RW.nil _ _ _ _ _ _ _, q1.mono (fun _ h => .inl h)⟩
  obtain ⟨ob, cb, e2, _, hg2⟩ := h1.i.form
  obtain ⟨m, hm⟩ : ∃ m, I.length = m := ⟨_, rfl⟩
  rw [hm] at e2 hg2
  subst e2
  have HG2 := hid hg2
  have HM := hid (And.intro hm hl)
  have HX : Hid (x < w.heap.size ∧ g1 < w.heap.size ∧ t + 2 < τ ∧ (∀ b, b < w.heap.size → K b < τ) ∧ B ≤ w.heap.size) := ⟨h.me.lt, hlt1, hτ, hτb, hB⟩
  have HN2 := hid hn2
  have hj' : (L1.length : Int) < (n : Int) := by rw [← hn]; simp; omega
  have hj1 : (0 : Int) ≤ (L1.length : Int) := by omega
  obtain ⟨ja, hja⟩ : ∃ ja, L1.length = ja := ⟨_, rfl⟩
  rw [hja] at c2 ff hw1 hj' hj1 ⊢
  have HJA := hid hja
  clear h h1 s1 q1 o1 hlr hlt1 hn hn2 hm hg2 hl hτ hτb hB hja
  generalize y.water = yw at c2
  go_enter Try.func37, Try.ntmps37
  go_wp2_with fail
  go_loopw [6, 7] (fun u6 u7 wr => ∃ (j : Nat) (K' : Nat → Nat), u7 = .int .i64 j ∧ j ≤ m ∧ RS w K B t x g (.slice (some ⟨g1, 0, none⟩) n cap) (.slice ob m cb) (L1 ++ { y with water := water } :: L2) I τ K' wr u6 ((I.take j).filter (stay y water))) (fun _ u7 _ => m - (intOf u7).toNat)
  case atStart => exact ⟨0, K, rfl, Nat.zero_le _, HR.out⟩
  case round =>
    obtain ⟨j, KR, rfl, hj, hrs⟩ := hrel
    have x4 := hrs.dc.c4
    have x5 := hrs.dc.c5
    have HRS := hid hrs
    clear hrs HR c2 ff c4 hw1
    by_cases hjm : j < m
    · have hjm' : (j : Int) < (m : Int) := by omega
      have hjm0 : (0 : Int) ≤ (j : Int) := by omega
      obtain ⟨z, hz⟩ : ∃ z, I[j]? = some z := ⟨_, List.getElem?_eq_getElem (by rw [HM.out.1]; exact hjm)⟩
      obtain ⟨g9, hg9⟩ := HG2.out (by omega)
      subst hg9
      have hri := HRS.out.dc.i
      have hrl := HRS.out.dc.l
      have t0 : wr.cell? ⟨g9, j * 5, none⟩ = some (.int .i64 z.a) := hri.cell snL HM.out.1 hz 0 (by omega)
      have t1 : wr.cell? ⟨g9, j * 5 + 1, none⟩ = some (.int .i64 z.i) := hri.cell snL HM.out.1 hz 1 (by omega)
      have t2 : wr.cell? ⟨g9, j * 5 + 2, none⟩ = some (.int .i64 z.seq) := hri.cell snL HM.out.1 hz 2 (by omega)
      have t3 : wr.cell? ⟨g9, j * 5 + 3, none⟩ = some (.bool z.dn) := hri.cell snL HM.out.1 hz 3 (by omega)
      have t4 : wr.cell? ⟨g9, j * 5 + 4, none⟩ = some (.string z.rep) := hri.cell snL HM.out.1 hz 4 (by omega)
      have hyj : (L1 ++ { y with water := water } :: L2)[ja]? = some { y with water := water } := by rw [← HJA.out]; simp
      have p0 : wr.cell? ⟨g1, ja * 3, none⟩ = some (.int .i64 y.a) := hrl.cell knL HN2.out hyj 0 (by omega)
      have p1 : wr.cell? ⟨g1, ja * 3 + 1, none⟩ = some (.int .i64 y.i) := hrl.cell knL HN2.out hyj 1 (by omega)
      have hwr : wrap64 ((j : Int) + 1) = (j : Int) + 1 := by have := HM.out; unfold wrap64; omega
      have hgd := fun w op x y xs ys => guard37n w op x y xs ys
      have hq := fun w => neq37 w z.a z.i y.a y.i
      have hst := stay_take y water I j z hz
      have HLL : Hid (((I.take j).filter (stay y water)).length ≤ 1000000) := Nat.le_trans (List.length_filter_le _ _) (by have := HM.out; simp; omega)
      clear hri hrl hyj
      cases d1 : (z.a == y.a && z.i == y.i)
      · have hs1 : stay y water z = true := by unfold stay; rw [d1]; rfl
        rw [hs1, if_pos rfl] at hst
        rw [d1] at hq
        simp only [Bool.not_false] at hq
        have HAP : Hid (∀ nq, ∃ v' w' K', (∀ r, (Builtin.append_ #[69, 69] r #[u6, .slice (some ⟨(wr.drewN nq).heap.size, 0, none⟩) 1 1]).run Try.prog ((wr.drewN nq).alloc (.cells #[.int .i64 z.a, .int .i64 z.i, .int .i64 z.seq, .bool z.dn, .string z.rep] 92)) = .ok v' w') ∧ RS w K B t x g (.slice (some ⟨g1, 0, none⟩) n cap) (.slice (some ⟨g9, 0, none⟩) m cb) (L1 ++ { y with water := water } :: L2) I τ K' w' v' ((I.take (j + 1)).filter (stay y water))) := fun nq => by
          obtain ⟨v', w', K', a1, a2⟩ := (HRS.out.drewN nq).app HX.out.2.2.1 z HLL.out
          rw [hst]
          exact ⟨v', w', K', a1, a2⟩
        have hbs := fun w => bls69 w z.a z.i z.seq z.dn z.rep
        clear hst hs1 d1 hz HLL
        generalize z.a = za at *
        generalize z.i = zi at *
        generalize z.seq = zs at *
        generalize z.dn = zd at *
        generalize z.rep = zr at *
        generalize y.a = ya at *
        generalize y.i = yi at *
        go_wp2_with fail
        go_quiet (fail)
        obtain ⟨v', w6, K6, r6, hrs6⟩ := HAP.out nq
        have HR6 := hid hrs6
        obtain ⟨w5, hw5⟩ : ∃ w5, (wr.drewN nq).alloc (.cells #[.int .i64 za, .int .i64 zi, .int .i64 zs, .bool zd, .string zr] 92) = w5 := ⟨_, rfl⟩
        obtain ⟨N5, hN5⟩ : ∃ N5, wr.heap.size = N5 := ⟨_, rfl⟩
        rw [hw5, show (wr.drewN nq).heap.size = N5 from hN5] at r6
        have R6 := hid r6
        clear r6 hrs6 HAP
        go_wp2_with (at_builtin; refine Hid.out ?_)
        refine (show Hid _ from ?_)
        refine wpList_app rfl _ _ 69 rfl _ _ _ _ rfl rfl (R6.out _) ?_
        go_wp2
        go_roundw
        case rel => exact ⟨j + 1, K6, by rw [hwr]; rfl, hjm, HR6.out⟩
        case measure => exact meas hwr hjm'
      · rw [d1] at hq
        simp only [Bool.not_true] at hq
        by_cases d2 : water ≤ z.seq
        · have hs1 : stay y water z = true := by unfold stay; simp [d2]
          have e2 : decide (water ≤ z.seq) = true := by simpa using d2
          rw [hs1, if_pos rfl] at hst
          clear d2
          have HAP : Hid (∀ nq, ∃ v' w' K', (∀ r, (Builtin.append_ #[69, 69] r #[u6, .slice (some ⟨(wr.drewN nq).heap.size, 0, none⟩) 1 1]).run Try.prog ((wr.drewN nq).alloc (.cells #[.int .i64 z.a, .int .i64 z.i, .int .i64 z.seq, .bool z.dn, .string z.rep] 92)) = .ok v' w') ∧ RS w K B t x g (.slice (some ⟨g1, 0, none⟩) n cap) (.slice (some ⟨g9, 0, none⟩) m cb) (L1 ++ { y with water := water } :: L2) I τ K' w' v' ((I.take (j + 1)).filter (stay y water))) := fun nq => by
            obtain ⟨v', w', K', a1, a2⟩ := (HRS.out.drewN nq).app HX.out.2.2.1 z HLL.out
            rw [hst]
            exact ⟨v', w', K', a1, a2⟩
          have hbs := fun w => bls69 w z.a z.i z.seq z.dn z.rep
          clear hst hs1 d1 hz HLL
          generalize z.a = za at *
          generalize z.i = zi at *
          generalize z.seq = zs at *
          generalize z.dn = zd at *
          generalize z.rep = zr at *
          generalize y.a = ya at *
          generalize y.i = yi at *
          go_wp2_with fail
          go_quiet (fail)
          obtain ⟨v', w6, K6, r6, hrs6⟩ := HAP.out nq
          have HR6 := hid hrs6
          obtain ⟨w5, hw5⟩ : ∃ w5, (wr.drewN nq).alloc (.cells #[.int .i64 za, .int .i64 zi, .int .i64 zs, .bool zd, .string zr] 92) = w5 := ⟨_, rfl⟩
          obtain ⟨N5, hN5⟩ : ∃ N5, wr.heap.size = N5 := ⟨_, rfl⟩
          rw [hw5, show (wr.drewN nq).heap.size = N5 from hN5] at r6
          have R6 := hid r6
          clear r6 hrs6 HAP
          go_wp2_with (at_builtin; refine Hid.out ?_)
          refine (show Hid _ from ?_)
          refine wpList_app rfl _ _ 69 rfl _ _ _ _ rfl rfl (R6.out _) ?_
          go_wp2
          go_roundw
          case rel => exact ⟨j + 1, K6, by rw [hwr]; rfl, hjm, HR6.out⟩
          case measure => exact meas hwr hjm'
        · have hs1 : stay y water z = false := by unfold stay; rw [d1]; simp [d2]
          have e2 : decide (water ≤ z.seq) = false := by simpa using d2
          rw [hs1, if_neg (by simp), List.append_nil] at hst
          have HNO : Hid (∀ nq, RS w K B t x g (.slice (some ⟨g1, 0, none⟩) n cap) (.slice (some ⟨g9, 0, none⟩) m cb) (L1 ++ { y with water := water } :: L2) I τ KR (wr.drewN nq) u6 ((I.take (j + 1)).filter (stay y water))) := fun nq => by rw [hst]; exact HRS.out.drewN nq
          clear hst hs1 d1 d2 hz HLL
          generalize z.a = za at *
          generalize z.i = zi at *
          generalize z.seq = zs at *
          generalize z.dn = zd at *
          generalize z.rep = zr at *
          generalize y.a = ya at *
          generalize y.i = yi at *
          go_wp2_with fail
          go_quiet (fail)
          go_wp2
          go_roundw
          case rel => exact ⟨j + 1, KR, by rw [hwr]; rfl, hjm, HNO.out nq⟩
          case measure => exact meas hwr hjm'
    · obtain rfl : j = m := by omega
      have hlast := HRS.out
      rw [List.take_of_length_le (by rw [HM.out.1]; exact Nat.le_refl _)] at hlast
      obtain ⟨b1, b2, b3, b4, b5⟩ := HX.out
      have HE := hid (hlast.done b1 (fun q hq => by cases hq; exact b2) b3 b4 b5)
      have f5 := hlast.dc.f 5
      obtain ⟨o6, c6, e6, _, _⟩ := hlast.r.form
      obtain ⟨n6, hn6⟩ : ∃ n6, (I.filter (stay y water)).length = n6 := ⟨_, rfl⟩
      rw [hn6] at e6
      subst e6
      clear hlast b1 b2 b3 b4 b5 HRS hn6
      go_wp2
      go_end0
      obtain ⟨K', q1, q2⟩ := HE.out
      exact ⟨rfl, K', _, _, q1, q2⟩
end Go.Proofs.Ytnpffhgmakbdnaa
