/- slices.Delete of one of the calls that wait. A call that waits no more, an outcome more: in memory. The client: finish. -/
import Derived.Test.YtfcbjcebkahehaaGreatDoorZat
import Derived.Test.YtfcbjcebkahehaaGreatDoorLq
import Derived.Lib.SliceRun
import Derived.Deep.RegionLaw
namespace Go.Proofs.YtfcbjcebkahehaaGreatDoor.Cl
open Go.RowKit
theorem under94 : Tryz.prog.underlying 94 = some (.slice 109) := by kernel_rfl
theorem zero109 (w : World) : (zeroValue 109).run Tryz.prog w = .ok (.pointer none) w := by kernel_rfl
/-- the block behind it -/
def delA (cur : Array Value) (n a : Nat) : Array Value := (cur.toList.take a ++ (cur.toList.take n).drop (a + 1) ++ cur.toList.drop (a + (n - (a + 1)))).toArray
set_option maxRecDepth 8000 in
set_option maxHeartbeats 4000000 in
theorem del_core (g n cap i j : Nat) (cur : Array Value) (w : World) (hg : w.heap[g]? = some (.cells cur 109 (0, 0))) (hcur : cur.size = cap) (hj1 : j = i + 1) (hj : j ≤ n) (hcap : n ≤ cap) (h1 : ∀ u ∈ cur.toList.take n, u.oneCell' = true) :
    Calls Tryz.prog 96 #[.slice (some ⟨g, 0, none⟩) n cap, .int .i64 (i : Int), .int .i64 (j : Int)] w fun e w' => e = .returned (.slice (some ⟨g, 0, none⟩) (n - 1) cap) ∧ w' = (w.drew.setRow g (delA cur n i)).setCell ⟨g, n - 1, none⟩ (.pointer none) := by
  obtain ⟨news, hnews⟩ : ∃ news, news = (cur.toList.take n).drop j := ⟨_, rfl⟩
  have hlen : news.length = n - j := by rw [hnews]; simp; omega
  obtain ⟨m, hmm⟩ : ∃ m, i + (n - j) = m := ⟨_, rfl⟩
  have hnm : n = m + 1 := by omega
  obtain ⟨A, hA, hsrc⟩ : ∃ A : Addr, (if cap = j then some (⟨g, 0, none⟩ : Addr) else some ⟨g, j, none⟩) = some A ∧ Hid (∀ t u, news[t]? = some u → w.drew.cell? (A.add t) = some u) := by
    have hget : ∀ t u, news[t]? = some u → w.drew.cell? ⟨g, j + t, none⟩ = some u := fun t u hu => by
      have ht : t < n - j := by rw [← hlen]; exact (List.getElem?_eq_some_iff.1 hu).1
      rw [hnews, List.getElem?_drop, List.getElem?_take] at hu
      rw [if_pos (by omega), Array.getElem?_toList] at hu
      show w.cell? _ = _
      exact cell_at hg hu
    by_cases h : cap = j
    · refine ⟨⟨g, 0, none⟩, by simp [h], fun t u hu => ?_⟩
      have h0 : news.length = 0 := by rw [hlen]; omega
      rw [List.length_eq_zero_iff.1 h0] at hu
      simp at hu
    · exact ⟨⟨g, j, none⟩, by simp [h], fun t u hu => by rw [Addr.add_lit]; exact hget t u hu⟩
  have s2 : ∀ u ∈ news, u.oneCell' = true := fun u hu => h1 u (by rw [hnews] at hu; exact List.mem_of_mem_drop hu)
  obtain ⟨i0, hi0, hi1, hi2, hi3⟩ := info109
  obtain ⟨W1, hW1⟩ : ∃ W1, W1 = w.drew.setRow g (delA cur n i) := ⟨_, rfl⟩
  have hrun : Hid (∀ r, (Builtin.append_ #[94, 94] r #[.slice (some ⟨g, 0, none⟩) i cap, .slice (some A) (n - j) (cap - j)]).run Tryz.prog w.drew = .ok (.slice (some ⟨g, 0, none⟩) m cap) W1) := fun r => by
    have h := run_append_room (P := Tryz.prog) w.drew 94 r 109 i0 under94 hi0 g i cap cur hg A (n - j) (cap - j) news (by rw [hi2, Nat.mul_one]; exact hlen) hsrc.out s2 (by omega) (by rw [hi2, hlen, hcur]; omega)
    rw [h, hmm, hW1, hi2, hlen]
    unfold delA
    rw [hnews, Nat.mul_one, hj1]
  have hg1 : W1.heap[g]? = some (.cells (delA cur n i) 109 (0, 0)) := by rw [hW1]; exact setRow_heap w.drew g cur _ 109 (0, 0) hg
  have hsz : (delA cur n i).size = cap := by unfold delA; simp; omega
  have hcl : ∀ ty, (Builtin.clear_ #[94] ty #[.slice (some ⟨g, m, none⟩) (n - m) (cap - m)]).run Tryz.prog W1 = .ok (.tuple #[]) (W1.setCell ⟨g, m, none⟩ (.pointer none)) := fun ty => by
    have h := Lib.run_clear_slice (P := Tryz.prog) W1 94 109 ty (.pointer none) under94 zero109 rfl rfl g m (n - m) (cap - m) (by omega) (fun t ht => by
      rw [cell_at hg1 (k := m + t) (v := (delA cur n i)[m + t]'(by omega)) (Array.getElem?_eq_getElem _)]; rfl) (fun t ht => frozen_at hg1 _)
    rw [h, show n - m = 1 by omega]
    rfl
  have HW : Hid (W1 = w.drew.setRow g (delA cur n i)) := hW1
  have hic : i ≤ cap := by omega
  have hjc : j ≤ cap := by omega
  have hij : i ≤ j := by omega
  have hne : ¬ i = j := by omega
  have hmn : m ≤ n := by omega
  have hmc : ¬ cap = m := by omega
  have hmc2 : m ≤ cap := by omega
  have HF : Hid (n = m + 1) := hnm
  clear hW1 hg1 hg hnews hlen s2 hsrc hsz hcur hmm hnm hj1 h1
  go_enter Tryz.func96, Tryz.ntmps96
  go_wp2_with fail
  go_region_law (refine step_app rfl (.tmp 22) (.tmp 25) 94 rfl (.slice (some ⟨g, 0, none⟩) i cap) (.slice (some A) (n - j) (cap - j)) _ _ (by go_simp) (by go_simp) (hrun.out _) ?_)
  go_wp2
  go_ret
  rw [← HW.out, show n - 1 = m by have := HF.out; omega]
  exact ⟨rfl, rfl⟩
end Go.Proofs.YtfcbjcebkahehaaGreatDoor.Cl
namespace Go.Proofs.YtfcbjcebkahehaaGreatDoor.Cl
open Go.RowKit
theorem fm_ptr (l : List Nat) : l.flatMap ptrC = l.map ptr := by
  induction l with
  | nil => rfl
  | cons x l ih => simp [List.flatMap_cons, ptrC, ih]
theorem RW.del {K : Nat → Nat} {w : World} {B t g n cap : Nat} {l1 l2 : List Nat} {b : Nat} (h : RW 109 1 ptrC K w B t (.slice (some ⟨g, 0, none⟩) n cap) (l1 ++ b :: l2)) (hn : (l1 ++ b :: l2).length = n) :
    Calls Tryz.prog 96 #[.slice (some ⟨g, 0, none⟩) n cap, .int .i64 (l1.length : Int), .int .i64 ((l1.length + 1 : Nat) : Int)] w fun e w' => e = .returned (.slice (some ⟨g, 0, none⟩) (n - 1) cap) ∧ RW 109 1 ptrC K w' B t (.slice (some ⟨g, 0, none⟩) (n - 1) cap) (l1 ++ l2) ∧ Mv (fun u => u = t) w w' K K := by
  have hk := h.k g rfl
  rcases h.own.2 with ⟨e, _⟩ | ⟨g', cap', cur, e, h1, h2, h3, h4, h5, h6⟩
  · cases e
  · simp only [Value.slice.injEq, Option.some.injEq, Addr.mk.injEq] at e
    obtain ⟨⟨rfl, _⟩, _, rfl⟩ := e
    rw [hn, Nat.mul_one] at h6
    rw [Nat.mul_one] at h5
    rw [hn] at h3
    have hln : l1.length + 1 + l2.length = n := by rw [← hn]; simp; omega
    have h6' : cur.toList.take n = l1.map ptr ++ ptr b :: l2.map ptr := by rw [h6, fm_ptr]; simp
    refine (del_core g n cap l1.length (l1.length + 1) cur w h2 h5 rfl (by omega) h3 (fun u hu => ?_)).mono ?_
    · rw [h6'] at hu
      rcases List.mem_append.1 hu with e | e
      · obtain ⟨_, _, rfl⟩ := List.mem_map.1 e; rfl
      · rcases List.mem_cons.1 e with rfl | e
        · rfl
        · obtain ⟨_, _, rfl⟩ := List.mem_map.1 e; rfl
    · rintro _ w' ⟨rfl, rfl⟩
      have hd : (delA cur n l1.length).toList = (l1 ++ l2).map ptr ++ cur.toList.drop (l1.length + (n - (l1.length + 1))) := by
        unfold delA
        have t1 : cur.toList.take l1.length = l1.map ptr := by
          have : cur.toList.take l1.length = (cur.toList.take n).take l1.length := by rw [List.take_take, Nat.min_eq_left (by omega)]
          rw [this, h6', List.take_append_of_le_length (by simp), List.take_of_length_le (by simp)]
        have t2 : (cur.toList.take n).drop (l1.length + 1) = l2.map ptr := by
          rw [h6']
          rw [List.drop_append, List.drop_eq_nil_of_le (by simp)]
          simp
        rw [t1, t2]
        simp
      have hg1 : (w.drew.setRow g (delA cur n l1.length)).heap[g]? = some (.cells (delA cur n l1.length) 109 (0, 0)) := setRow_heap w.drew g cur _ 109 (0, 0) h2
      have hsz : (delA cur n l1.length).size = cap := by
        rw [← Array.length_toList, hd]
        simp
        omega
      refine ⟨rfl, ⟨⟨by rw [fm_ptr]; simp, .inr ⟨g, cap, _, ?_, h1, set_at hg1 _ _, ?_, h4, ?_, ?_⟩⟩, fun g' hg' => by cases hg'; exact hk⟩, ?_⟩
      · rw [show (l1 ++ l2).length = n - 1 by rw [List.length_append]; omega]
      · rw [List.length_append]; omega
      · rw [Array.size_setIfInBounds, hsz, Nat.mul_one]
      · rw [Array.toList_setIfInBounds, Nat.mul_one, show (l1 ++ l2).length = n - 1 by rw [List.length_append]; omega, List.take_set_of_le (Nat.le_refl _), hd, List.take_append_of_le_length (by simp; omega), List.take_of_length_le (by simp; omega), fm_ptr]
      · refine ⟨rfl, rfl, rfl, by simp [World.setCell], fun _ _ => rfl, fun b' hb' ht => ?_⟩
        have hne : b' ≠ g := fun e => ht (by rw [e]; exact hk)
        rw [Below.heap_setCell _ _ _ _ hne, setRow_other _ _ _ _ hne]
        rfl
theorem info80 : ∃ i z, Tryz.prog.info? 80 = some i ∧ i.zero = some z ∧ i.size = 9 ∧ i.bytes = 80 ∧ z.cells.size = 9 :=
  ⟨(Tryz.prog.info? 80).getD default, .agg #[.int .i64 0, .int .i64 0, .int .i64 0, .int .i64 0, .int .i64 0, .int .i64 0, .int .i64 0, .string ⟨#[]⟩, .int .i64 0], by kernel_rfl, by kernel_rfl, by kernel_rfl, by kernel_rfl, by kernel_rfl⟩
theorem under75 : Tryz.prog.underlying 75 = some (.slice 80) := by kernel_rfl
theorem app75 {K : Nat → Nat} {w : World} {B t : Nat} {v : Value} {l : List Oc} (h : RW 80 9 ocC K w B t v l) (hB : B ≤ w.heap.size) {N : Nat} {x : Oc} (hb : w.heap[N]? = some (.cells (ocC x).toArray 80 (0, 0))) (hl : l.length ≤ 100000000) :
    ∃ oa c w' K', (∀ r, (Builtin.append_ #[75, 75] r #[v, .slice (some ⟨N, 0, none⟩) 1 1]).run Tryz.prog w = .ok (.slice oa (l.length + 1) c) w') ∧ RW 80 9 ocC K' w' B t (.slice oa (l.length + 1) c) (l ++ [x]) ∧ Mv (fun x => x = t) w w' K K' := by
  obtain ⟨i, z, hi, hz, hs, hby, hzs⟩ := info80
  obtain ⟨v', w', K', q1, q2, q3⟩ := RW.app (ty := 75) under75 hi hz hs hby hzs (by omega) ocL ocO h hB (N := N) (x := x) (cs := (ocC x).toArray) rfl hb (by omega) (by omega)
  obtain ⟨oa, c, e, _, _⟩ := q2.form
  rw [List.length_append, List.length_singleton] at e
  subst e
  exact ⟨oa, c, w', K', q1, q2, q3⟩
section
variable {K K' : Nat → Nat} {w w' : World} {B t p : Nat} {c : Cf} {oa : Option Addr} {cap : Nat} {next now : Int} {L : List Wt} {D : List Oc} {vw vd : Value} {q : Mq}
/-- one call less, its list stored -/
theorem PC.less {v : Value} {L1 L2 : List Wt} {x : Wt} (h : PC K w B t p c oa cap next now (L1 ++ x :: L2) D vw vd q) (R : RW 109 1 ptrC K w' B (t + 1) v ((L1 ++ L2).map Wt.b)) (m : Mv (fun u => u = t + 1) w w' K K) :
    PC K (w'.setCell ⟨p, 14, none⟩ v) B t p c oa cap next now (L1 ++ L2) D v vd q ∧ Mv (fun u => u = t ∨ u = t + 1) w (w'.setCell ⟨p, 14, none⟩ v) K K := by
  have cl := h.cl.mv m (by omega)
  have m2 : Mv (fun u => u = t) w' (w'.setCell ⟨p, 14, none⟩ v) K K := Mv.of_set w' K ⟨p, 14, none⟩ v cl.k
  have mm : Mv (fun u => u = t ∨ u = t + 1) w (w'.setCell ⟨p, 14, none⟩ v) K K := (m.mono (fun u e => .inr e)).trans (m2.mono (fun u e => .inl e))
  have me := h.me
  have hsub : (L1 ++ L2).Sublist (L1 ++ x :: L2) := List.Sublist.append (List.Sublist.refl _) (List.sublist_cons_self _ _)
  refine ⟨⟨⟨set_at cl.at_ 14 _, cl.k⟩, R.mv m2 (by omega), h.dn.mv mm (by omega), fun y hy => (h.cs y (hsub.subset hy)).mv mm (by omega) (by omega), h.nd.sublist (hsub.map _), me.mv mm (by omega), h.gs.mv mm (by omega), h.gl, h.ok, Nat.le_trans h.hB mm.size, h.er mm (fun t' e => by omega), h.h0' mm, h.b1⟩, mm⟩
/-- one outcome more -/
theorem PC.told (h : PC K w B t p c oa cap next now L D vw vd q) {N : Nat} {o : Oc} (hN : w.heap[N]? = some (.cells (ocC o).toArray 80)) (hl : D.length ≤ 100000000) :
    ∃ o' c' w' K', (∀ r, (Builtin.append_ #[75, 75] r #[vd, .slice (some ⟨N, 0, none⟩) 1 1]).run Tryz.prog w = .ok (.slice o' (D.length + 1) c') w') ∧ w'.heap[p]? = w.heap[p]? ∧ PC K' (w'.setCell ⟨p, 15, none⟩ (.slice o' (D.length + 1) c')) B t p c oa cap next now L (D ++ [o]) vw (.slice o' (D.length + 1) c') q ∧ Mv (fun u => u = t ∨ u = t + 2) w (w'.setCell ⟨p, 15, none⟩ (.slice o' (D.length + 1) c')) K K' := by
  obtain ⟨o', c', w', K', hr, R, m⟩ := app75 h.dn h.hB hN hl
  have cl := h.cl.mv m (by omega)
  obtain ⟨v, hv⟩ : ∃ v, Value.slice o' (D.length + 1) c' = v := ⟨_, rfl⟩
  rw [hv] at R
  refine ⟨o', c', w', K', hr, cl.at_.trans h.cl.at_.symm, ?_⟩
  rw [hv]
  have m2 : Mv (fun u => u = t) w' (w'.setCell ⟨p, 15, none⟩ v) K' K' := Mv.of_set w' K' ⟨p, 15, none⟩ v cl.k
  have mm : Mv (fun u => u = t ∨ u = t + 2) w (w'.setCell ⟨p, 15, none⟩ v) K K' := (m.mono (fun u e => .inr e)).trans (m2.mono (fun u e => .inl e))
  have me := h.me
  exact ⟨⟨⟨set_at cl.at_ 15 _, cl.k⟩, h.wr.mv mm (by omega), R.mv m2 (by omega), fun y hy => (h.cs y hy).mv mm (by omega) (by omega), h.nd, me.mv mm (by omega), h.gs.mv mm (by omega), h.gl, h.ok, Nat.le_trans h.hB mm.size, h.er mm (fun t' e => by omega), h.h0' mm, h.b1⟩, mm⟩
end
end Go.Proofs.YtfcbjcebkahehaaGreatDoor.Cl
namespace Go.Proofs.YtfcbjcebkahehaaGreatDoor.Cl
open Go.RowKit
section
variable {K K' : Nat → Nat} {w w' : World} {B t p : Nat} {c : Cf} {oa : Option Addr} {cap : Nat} {next now : Int} {L : List Wt} {D : List Oc} {vw vd : Value} {q : Mq}
theorem bls75 (v0 v1 v2 v3 v4 v5 v6 v8 : Int) (s : ByteArray) (w : World) : (Instr.buildSlice 75 1 #[(0, .agg #[.int .i64 v0, .int .i64 v1, .int .i64 v2, .int .i64 v3, .int .i64 v4, .int .i64 v5, .int .i64 v6, .string s, .int .i64 v8])]).run Tryz.prog w = .ok (.slice (some ⟨w.heap.size, 0, none⟩) 1 1) (w.alloc (.cells #[.int .i64 v0, .int .i64 v1, .int .i64 v2, .int .i64 v3, .int .i64 v4, .int .i64 v5, .int .i64 v6, .string s, .int .i64 v8] 80)) := by kernel_rfl
set_option maxRecDepth 8000 in
set_option maxHeartbeats 8000000 in
theorem PC.finish_any {L1 L2 : List Wt} {x : Wt} (h : PC K w B t p c oa cap next now (L1 ++ x :: L2) D vw vd q) (o : Oc) (hl : D.length ≤ 100000000) (hL : L1.length ≤ 100000000) :
    Calls Tryz.prog 58 #[ptr p, .int .i64 (L1.length : Int), .agg (ocC o).toArray] w fun e w' => (∃ v, e = .returned v) ∧ Hid (∃ K' vw' vd', PC K' w' B t p c oa cap next now (L1 ++ L2) (D ++ [{ o with seq := x.seq, at_ := now }]) vw' vd' q ∧ Mv (fun u => u = t ∨ u = t + 1 ∨ u = t + 2) w w' K K') := by
  obtain ⟨s0, st, acc, rej, why, low, high, res, at0⟩ := o
  show Calls Tryz.prog 58 #[ptr p, .int .i64 (L1.length : Int), .agg #[.int .i64 s0, .int .i64 st, .int .i64 acc, .int .i64 rej, .int .i64 why, .int .i64 low, .int .i64 high, .string ⟨res.toArray⟩, .int .i64 at0]] w fun e w' => (∃ v, e = .returned v) ∧ Hid (∃ K' vw' vd', PC K' w' B t p c oa cap next now (L1 ++ L2) (D ++ [⟨x.seq, st, acc, rej, why, low, high, res, now⟩]) vw' vd' q ∧ Mv (fun u => u = t ∨ u = t + 1 ∨ u = t + 2) w w' K K')
  obtain ⟨S, hS⟩ : ∃ y, w.heap.size = y := ⟨_, rfl⟩
  obtain ⟨w1, hw1⟩ : ∃ y, w.alloc (.cells #[.int .i64 s0, .int .i64 st, .int .i64 acc, .int .i64 rej, .int .i64 why, .int .i64 low, .int .i64 high, .string ⟨res.toArray⟩, .int .i64 at0] 80) = y := ⟨_, rfl⟩
  have hB1 : Below w.heap.size w w1 := by rw [← hw1]; exact (Below.refl _ _).alloc (Nat.le_refl _) _
  have P1 := h.below hB1 (fun _ => t + 7)
  have m1 := Mv.of_below hB1 K (fun _ => t + 7)
  have k1 : w1.heap[S]? = some (.cells #[.int .i64 s0, .int .i64 st, .int .i64 acc, .int .i64 rej, .int .i64 why, .int .i64 low, .int .i64 high, .string ⟨res.toArray⟩, .int .i64 at0] 80) := by rw [← hw1, ← hS]; exact (MapKept.heap_alloc w _).1
  have hKS : ext w K (fun _ => t + 7) S = t + 7 := ext_new (Nat.le_of_eq hS)
  generalize ext w K (fun _ => t + 7) = K1 at P1 m1 hKS
  obtain ⟨o14, c14, e14, _, hg⟩ := P1.wr.form
  obtain ⟨g, rfl⟩ := hg (by simp; omega)
  obtain ⟨n, hn⟩ : ∃ n, ((L1 ++ x :: L2).map Wt.b).length = n := ⟨_, rfl⟩
  rw [hn] at e14
  subst e14
  obtain ⟨a, ha⟩ : ∃ a, L1.length = a := ⟨_, rfl⟩
  have han : a < n := by rw [← hn, ← ha]; simp
  obtain ⟨o15, c15, e15, _, _⟩ := P1.dn.form
  obtain ⟨d, hd⟩ : ∃ d, D.length = d := ⟨_, rfl⟩
  rw [hd] at e15
  subst e15
  have hx0 : w1.cell? ⟨g, a, none⟩ = some (ptr x.b) := by
    have := P1.wr.cell ptrL hn (j := a) (x := x.b) (by rw [← ha]; simp) 0 (by omega)
    simpa [ptrC] using this
  have hx1 : w1.cell? ⟨x.b, 0, none⟩ = some (.int .i64 x.seq) := cell_at (P1.cs x (by simp)).me.at_ rfl
  have s0' : w1.drew.cell? ⟨p, 14, none⟩ = some (.slice (some ⟨g, 0, none⟩) n c14) ∧ w1.drew.cell? ⟨p, 13, none⟩ = some (.int .i64 now) ∧ w1.drew.cell? ⟨g, a, none⟩ = some (ptr x.b) ∧ w1.drew.cell? ⟨x.b, 0, none⟩ = some (.int .i64 x.seq) := ⟨P1.ce (k := 14) rfl, P1.ce (k := 13) rfl, hx0, hx1⟩
  have nS : ∀ {u b : Nat} {ob : Obj}, TB K1 w1 u b ob → u < t + 7 → b ≠ S := fun hb hu e => by have := hb.k; rw [e, hKS] at this; omega
  have hgS : g ≠ S := fun e => by have := P1.wr.k g rfl; rw [e, hKS] at this; omega
  have hpS : p ≠ S := nS P1.cl (by omega)
  have hbS : x.b ≠ S := nS (P1.cs x (by simp)).me (by omega)
  obtain ⟨wA, hwA⟩ : ∃ y, w1.drew.setCell ⟨S, 0, none⟩ (.int .i64 x.seq) = y := ⟨_, rfl⟩
  have kA : wA.heap[S]? = some (.cells #[.int .i64 x.seq, .int .i64 st, .int .i64 acc, .int .i64 rej, .int .i64 why, .int .i64 low, .int .i64 high, .string ⟨res.toArray⟩, .int .i64 at0] 80) := by rw [← hwA]; exact set_at (w := w1.drew) k1 0 _
  have sA : wA.cell? ⟨p, 14, none⟩ = some (.slice (some ⟨g, 0, none⟩) n c14) ∧ wA.cell? ⟨p, 13, none⟩ = some (.int .i64 now) ∧ wA.cell? ⟨g, a, none⟩ = some (ptr x.b) ∧ wA.cell? ⟨x.b, 0, none⟩ = some (.int .i64 x.seq) := by
    rw [← hwA]
    exact ⟨(World.cell?_of_block (a := ⟨p, 14, none⟩) (Below.heap_setCell _ _ _ _ hpS)).trans s0'.1, (World.cell?_of_block (a := ⟨p, 13, none⟩) (Below.heap_setCell _ _ _ _ hpS)).trans s0'.2.1, (World.cell?_of_block (a := ⟨g, a, none⟩) (Below.heap_setCell _ _ _ _ hgS)).trans s0'.2.2.1, (World.cell?_of_block (a := ⟨x.b, 0, none⟩) (Below.heap_setCell _ _ _ _ hbS)).trans s0'.2.2.2⟩
  obtain ⟨wB, hwB⟩ : ∃ y, wA.setCell ⟨S, 8, none⟩ (.int .i64 now) = y := ⟨_, rfl⟩
  have kB : wB.heap[S]? = some (.cells #[.int .i64 x.seq, .int .i64 st, .int .i64 acc, .int .i64 rej, .int .i64 why, .int .i64 low, .int .i64 high, .string ⟨res.toArray⟩, .int .i64 now] 80) := by rw [← hwB]; exact set_at kA 8 _
  have mB : Mv (fun u => u = t + 7) w1 wB K1 K1 := by
    rw [← hwB, ← hwA]
    exact ((Mv.drew _ w1 K1).trans (Mv.of_set _ K1 ⟨S, 0, none⟩ _ hKS)).trans (Mv.of_set _ K1 ⟨S, 8, none⟩ _ hKS)
  have PB := P1.to mB (fun t' e => by omega)
  have y0 : w1.drew.cell? ⟨S, 0, none⟩ = some (.int .i64 s0) := cell_at (w := w1.drew) k1 rfl
  have y1 : wA.cell? ⟨S, 8, none⟩ = some (.int .i64 at0) := cell_at kA rfl
  have f0 : w1.drew.frozen? ⟨S, 0, none⟩ = false := frozen_at (w := w1.drew) k1 0
  have f1 : wA.frozen? ⟨S, 8, none⟩ = false := frozen_at kA 8
  have z14 : wB.cell? ⟨p, 14, none⟩ = some (.slice (some ⟨g, 0, none⟩) n c14) := PB.ce (k := 14) rfl
  have HD : Hid (Calls Tryz.prog 96 #[.slice (some ⟨g, 0, none⟩) n c14, .int .i64 (a : Int), .int .i64 ((a : Int) + 1)] wB fun e w' => e = .returned (.slice (some ⟨g, 0, none⟩) (n - 1) c14) ∧ Hid (RW 109 1 ptrC K1 w' B (t + 1) (.slice (some ⟨g, 0, none⟩) (n - 1) c14) ((L1 ++ L2).map Wt.b) ∧ Mv (fun u => u = t + 1) wB w' K1 K1)) := by
    have hr := PB.wr
    rw [List.map_append, List.map_cons] at hr
    have := RW.del hr (by rw [← hn]; simp)
    rw [List.length_map, ha, show ((a + 1 : Nat) : Int) = (a : Int) + 1 by omega] at this
    refine this.mono ?_
    rintro e w' ⟨e1, e2, e3⟩
    exact ⟨e1, by rw [List.map_append]; exact e2, e3⟩
  have HS : Hid (S = w.heap.size ∧ K1 S = t + 7 ∧ wB.heap[S]? = some (.cells #[.int .i64 x.seq, .int .i64 st, .int .i64 acc, .int .i64 rej, .int .i64 why, .int .i64 low, .int .i64 high, .string ⟨res.toArray⟩, .int .i64 now] 80) ∧ p ≠ S ∧ Mv (fun _ => False) w wB K K1 ∧ PC K1 wB B t p c oa cap next now (L1 ++ x :: L2) D (.slice (some ⟨g, 0, none⟩) n c14) (.slice o15 d c15) q) := by
    refine ⟨hS.symm, hKS, kB, hpS, ?_, PB⟩
    refine ⟨mB.os.trans m1.os, mB.tape.trans m1.tape, mB.output.trans m1.output, Nat.le_trans m1.size mB.size, fun b hb => m1.old b hb ▸ mB.old b (Nat.lt_of_lt_of_le hb m1.size), fun b hb hf => ?_⟩
    have hne : b ≠ S := by omega
    rw [← hwB, Below.heap_setCell _ _ _ _ hne, ← hwA, Below.heap_setCell _ _ _ _ hne]
    exact m1.kept b hb hf
  have hT : Hid (∀ w2, RW 109 1 ptrC K1 w2 B (t + 1) (.slice (some ⟨g, 0, none⟩) (n - 1) c14) ((L1 ++ L2).map Wt.b) → Mv (fun u => u = t + 1) wB w2 K1 K1 → ∀ w3, w2.setCell ⟨p, 14, none⟩ (.slice (some ⟨g, 0, none⟩) (n - 1) c14) = w3 →
      w2.frozen? ⟨p, 14, none⟩ = false ∧ (w2.cell? ⟨p, 14, none⟩ = some (.slice (some ⟨g, 0, none⟩) n c14)) ∧ (∀ w', Below w3.heap.size w3 w' → w'.cell? ⟨p, 15, none⟩ = some (.slice o15 d c15) ∧ w'.cell? ⟨S, 0, none⟩ = some (.int .i64 x.seq) ∧ w'.cell? ⟨S, 1, none⟩ = some (.int .i64 st) ∧ w'.cell? ⟨S, 2, none⟩ = some (.int .i64 acc) ∧ w'.cell? ⟨S, 3, none⟩ = some (.int .i64 rej) ∧ w'.cell? ⟨S, 4, none⟩ = some (.int .i64 why) ∧ w'.cell? ⟨S, 5, none⟩ = some (.int .i64 low) ∧ w'.cell? ⟨S, 6, none⟩ = some (.int .i64 high) ∧ w'.cell? ⟨S, 7, none⟩ = some (.string ⟨res.toArray⟩) ∧ w'.cell? ⟨S, 8, none⟩ = some (.int .i64 now)) ∧
      ∀ w4 N4, w3.drew.heap.size = N4 → w3.drew.alloc (.cells #[.int .i64 x.seq, .int .i64 st, .int .i64 acc, .int .i64 rej, .int .i64 why, .int .i64 low, .int .i64 high, .string ⟨res.toArray⟩, .int .i64 now] 80) = w4 → ∃ o5 c5 w5, (∀ r, (Builtin.append_ #[75, 75] r #[.slice o15 d c15, .slice (some ⟨N4, 0, none⟩) 1 1]).run Tryz.prog w4 = .ok (.slice o5 (d + 1) c5) w5) ∧ (w5.cell? ⟨p, 15, none⟩ = some (.slice o15 d c15) ∧ w5.cell? ⟨S, 0, none⟩ = some (.int .i64 x.seq) ∧ w5.cell? ⟨S, 1, none⟩ = some (.int .i64 st) ∧ w5.cell? ⟨S, 2, none⟩ = some (.int .i64 acc) ∧ w5.cell? ⟨S, 3, none⟩ = some (.int .i64 rej) ∧ w5.cell? ⟨S, 4, none⟩ = some (.int .i64 why) ∧ w5.cell? ⟨S, 5, none⟩ = some (.int .i64 low) ∧ w5.cell? ⟨S, 6, none⟩ = some (.int .i64 high) ∧ w5.cell? ⟨S, 7, none⟩ = some (.string ⟨res.toArray⟩) ∧ w5.cell? ⟨S, 8, none⟩ = some (.int .i64 now)) ∧ w5.frozen? ⟨p, 15, none⟩ = false ∧
        ∀ w6, w5.setCell ⟨p, 15, none⟩ (.slice o5 (d + 1) c5) = w6 → Hid (∃ K' vw' vd', PC K' w6 B t p c oa cap next now (L1 ++ L2) (D ++ [⟨x.seq, st, acc, rej, why, low, high, res, now⟩]) vw' vd' q ∧ Mv (fun u => u = t ∨ u = t + 1 ∨ u = t + 2) w w6 K K')) := by
    intro w2 R2 m2 w3 hw3
    obtain ⟨hSS, hK, hk, hp, mw, PB⟩ := HS.out
    have cl2 := PB.cl.mv m2 (by omega)
    obtain ⟨P3, m3⟩ := PB.less R2 m2
    rw [hw3] at P3 m3
    have k3 : w3.heap[S]? = some (.cells #[.int .i64 x.seq, .int .i64 st, .int .i64 acc, .int .i64 rej, .int .i64 why, .int .i64 low, .int .i64 high, .string ⟨res.toArray⟩, .int .i64 now] 80) := (m3.kept S (Array.getElem?_eq_some_iff.1 hk).1 (by rw [hK]; omega)).trans hk
    have hlt3 := (Array.getElem?_eq_some_iff.1 k3).1
    have s3 : ∀ w', Below w3.heap.size w3 w' → w'.cell? ⟨p, 15, none⟩ = some (.slice o15 d c15) ∧ w'.cell? ⟨S, 0, none⟩ = some (.int .i64 x.seq) ∧ w'.cell? ⟨S, 1, none⟩ = some (.int .i64 st) ∧ w'.cell? ⟨S, 2, none⟩ = some (.int .i64 acc) ∧ w'.cell? ⟨S, 3, none⟩ = some (.int .i64 rej) ∧ w'.cell? ⟨S, 4, none⟩ = some (.int .i64 why) ∧ w'.cell? ⟨S, 5, none⟩ = some (.int .i64 low) ∧ w'.cell? ⟨S, 6, none⟩ = some (.int .i64 high) ∧ w'.cell? ⟨S, 7, none⟩ = some (.string ⟨res.toArray⟩) ∧ w'.cell? ⟨S, 8, none⟩ = some (.int .i64 now) := fun w' hb => ⟨cell_at ((hb.block p P3.cl.lt).trans P3.cl.at_) rfl, cell_at ((hb.block S hlt3).trans k3) rfl, cell_at ((hb.block S hlt3).trans k3) rfl, cell_at ((hb.block S hlt3).trans k3) rfl, cell_at ((hb.block S hlt3).trans k3) rfl, cell_at ((hb.block S hlt3).trans k3) rfl, cell_at ((hb.block S hlt3).trans k3) rfl, cell_at ((hb.block S hlt3).trans k3) rfl, cell_at ((hb.block S hlt3).trans k3) rfl, cell_at ((hb.block S hlt3).trans k3) rfl⟩
    refine ⟨frozen_at cl2.at_ 14, cell_at cl2.at_ rfl, s3, fun w4 N4 hN4 hw4 => ?_⟩
    have b4 : Below w3.heap.size w3 w4 := by
      rw [← hw4]
      exact (show Below w3.heap.size w3 w3.drew from ⟨rfl, rfl, rfl, Nat.le_refl _, fun _ _ => rfl⟩).alloc (Nat.le_refl _) _
    have P4 := P3.below b4 (fun _ => t + 8)
    have m4 := Mv.of_below b4 K1 (fun _ => t + 8)
    have hN : w4.heap[N4]? = some (.cells (ocC ⟨x.seq, st, acc, rej, why, low, high, res, now⟩).toArray 80) := by rw [← hw4, ← hN4]; exact (MapKept.heap_alloc w3.drew _).1
    have hK4 : ext w3 K1 (fun _ => t + 8) S = t + 7 := (ext_old hlt3).trans hK
    generalize ext w3 K1 (fun _ => t + 8) = K4 at P4 m4 hK4
    obtain ⟨o5, c5, w5, K5, hr, hp5, P5, m5⟩ := P4.told hN hl
    rw [hd] at hr P5 m5
    have k4 : w4.heap[S]? = some (.cells #[.int .i64 x.seq, .int .i64 st, .int .i64 acc, .int .i64 rej, .int .i64 why, .int .i64 low, .int .i64 high, .string ⟨res.toArray⟩, .int .i64 now] 80) := (b4.block S hlt3).trans k3
    have kp5 := hp5.trans P4.cl.at_
    refine ⟨o5, c5, w5, hr, ?_, frozen_at kp5 15, fun w6 hw6 => ?_⟩
    · have k5 : w5.heap[S]? = some (.cells #[.int .i64 x.seq, .int .i64 st, .int .i64 acc, .int .i64 rej, .int .i64 why, .int .i64 low, .int .i64 high, .string ⟨res.toArray⟩, .int .i64 now] 80) := by
        have h6 := m5.kept S (Array.getElem?_eq_some_iff.1 k4).1 (by rw [hK4]; omega)
        rw [Below.heap_setCell _ _ _ _ (Ne.symm hp)] at h6
        exact h6.trans k4
      exact ⟨cell_at kp5 rfl, cell_at k5 rfl, cell_at k5 rfl, cell_at k5 rfl, cell_at k5 rfl, cell_at k5 rfl, cell_at k5 rfl, cell_at k5 rfl, cell_at k5 rfl, cell_at k5 rfl⟩
    · rw [hw6] at P5 m5
      exact ⟨K5, _, _, P5, (mw.mono (fun _ e => e.elim)).trans ((m3.mono (fun u e => e.elim .inl (fun e => .inr (.inl e)))).trans ((m4.mono (fun _ e => e.elim)).trans (m5.mono (fun u e => e.elim .inl (fun e => .inr (.inr e))))))⟩
  have hai : (a : Int) < (n : Int) := by omega
  have hwr : wrap64 ((a : Int) + 1) = (a : Int) + 1 := wrapS (by omega)
  have hb75 := fun v0 v1 v2 v3 v4 v5 v6 v8 s w => bls75 v0 v1 v2 v3 v4 v5 v6 v8 s w
  have HL := hid hL
  rw [ha]
  clear h hl hB1 P1 m1 k1 hKS hn ha han hd hx0 hx1 nS hgS hpS hbS kA kB mB PB hL hg HS HL
  go_enter Tryz.func58, Tryz.ntmps58
  go_wp2_with fail
  refine wp_region_last (S := fun w' => w'.cell? ⟨p, 14, none⟩ = some (.slice (some ⟨g, 0, none⟩) n c14) ∧ w'.cell? ⟨p, 13, none⟩ = some (.int .i64 now) ∧ w'.cell? ⟨g, a, none⟩ = some (ptr x.b) ∧ w'.cell? ⟨x.b, 0, none⟩ = some (.int .i64 x.seq)) (n := 17) (by kernel_rfl) rfl (by kernel_rfl) (by kernel_rfl) ?_ (fun hHeld => ?_)
  · exact s0'
  refine wpAnyH_take (i := 0) (v := ?_) rfl (by kernel_rfl) (by kernel_rfl) (by kernel_rfl) (fun _ _ _ h => h) (Or.inl ⟨by rfl, ?_⟩) (by assumption) ?_
  rotate_left
  · (intro w hSw; (try dsimp only at hSw); go_simp; try with_reducible rfl)
  try simp only [Act.put]
  try simp only [List.setIfInBounds_toArray]
  try simp only [List.set_cons_succ]
  try simp only [List.set_cons_zero]
  refine wpAnyH_take (i := 1) (v := ?_) rfl (by kernel_rfl) (by kernel_rfl) (by kernel_rfl) (fun _ _ _ h => h) (Or.inl ⟨by rfl, ?_⟩) (by assumption) ?_
  rotate_left
  · (intro w hSw; (try dsimp only at hSw); go_simp; try with_reducible rfl)
  try simp only [Act.put]
  try simp only [List.setIfInBounds_toArray]
  try simp only [List.set_cons_succ]
  try simp only [List.set_cons_zero]
  refine wpAnyH_take (i := 2) (v := ?_) rfl (by kernel_rfl) (by kernel_rfl) (by kernel_rfl) (fun _ _ _ h => h) (Or.inl ⟨by rfl, ?_⟩) (by assumption) ?_
  rotate_left
  · (intro w hSw; (try dsimp only at hSw); go_simp; try with_reducible rfl)
  try simp only [Act.put]
  try simp only [List.setIfInBounds_toArray]
  try simp only [List.set_cons_succ]
  try simp only [List.set_cons_zero]
  refine wpAnyH_take (i := 3) (v := ?_) rfl (by kernel_rfl) (by kernel_rfl) (by kernel_rfl) (fun _ _ _ h => h) (Or.inl ⟨by rfl, ?_⟩) (by assumption) ?_
  rotate_left
  · (intro w hSw; (try dsimp only at hSw); go_simp; try with_reducible rfl)
  try simp only [Act.put]
  try simp only [List.setIfInBounds_toArray]
  try simp only [List.set_cons_succ]
  try simp only [List.set_cons_zero]
  refine wpAnyH_take (i := 4) (v := ?_) rfl (by kernel_rfl) (by kernel_rfl) (by kernel_rfl) (fun _ _ _ h => h) (Or.inl ⟨by rfl, ?_⟩) (by assumption) ?_
  rotate_left
  · (intro w hSw; (try dsimp only at hSw); go_simp; try with_reducible rfl)
  try simp only [Act.put]
  try simp only [List.setIfInBounds_toArray]
  try simp only [List.set_cons_succ]
  try simp only [List.set_cons_zero]
  refine wpAnyH_take (i := 5) (v := ?_) rfl (by kernel_rfl) (by kernel_rfl) (by kernel_rfl) (fun _ _ _ h => h) (Or.inl ⟨by rfl, ?_⟩) (by assumption) ?_
  rotate_left
  · (intro w hSw; (try dsimp only at hSw); go_simp; try with_reducible rfl)
  try simp only [Act.put]
  try simp only [List.setIfInBounds_toArray]
  try simp only [List.set_cons_succ]
  try simp only [List.set_cons_zero]
  refine wpAnyH_take (i := 6) (v := ?_) rfl (by kernel_rfl) (by kernel_rfl) (by kernel_rfl) (fun _ _ _ h => h) (Or.inl ⟨by rfl, ?_⟩) (by assumption) ?_
  rotate_left
  · (intro w hSw; (try dsimp only at hSw); go_simp; try with_reducible rfl)
  try simp only [Act.put]
  try simp only [List.setIfInBounds_toArray]
  try simp only [List.set_cons_succ]
  try simp only [List.set_cons_zero]
  refine wpAnyH_take (i := 7) (v := ?_) rfl (by kernel_rfl) (by kernel_rfl) (by kernel_rfl) (fun _ _ _ h => h) (Or.inl ⟨by rfl, ?_⟩) (by assumption) ?_
  rotate_left
  · (intro w hSw; (try dsimp only at hSw); go_simp; try with_reducible rfl)
  try simp only [Act.put]
  try simp only [List.setIfInBounds_toArray]
  try simp only [List.set_cons_succ]
  try simp only [List.set_cons_zero]
  refine wpAnyH_take (i := 8) (v := ?_) rfl (by kernel_rfl) (by kernel_rfl) (by kernel_rfl) (fun _ _ _ h => h) (Or.inl ⟨by rfl, ?_⟩) (by assumption) ?_
  rotate_left
  · (intro w hSw; (try dsimp only at hSw); go_simp; try with_reducible rfl)
  try simp only [Act.put]
  try simp only [List.setIfInBounds_toArray]
  try simp only [List.set_cons_succ]
  try simp only [List.set_cons_zero]
  refine wpAnyH_take (i := 9) (v := ?_) rfl (by kernel_rfl) (by kernel_rfl) (by kernel_rfl) (fun _ _ _ h => h) (Or.inl ⟨by rfl, ?_⟩) (by assumption) ?_
  rotate_left
  · (intro w hSw; (try dsimp only at hSw); go_simp; try with_reducible rfl)
  try simp only [Act.put]
  try simp only [List.setIfInBounds_toArray]
  try simp only [List.set_cons_succ]
  try simp only [List.set_cons_zero]
  refine wpAnyH_take (i := 10) (v := ?_) rfl (by kernel_rfl) (by kernel_rfl) (by kernel_rfl) (fun _ _ _ h => h) (Or.inl ⟨by rfl, ?_⟩) (by assumption) ?_
  rotate_left
  · (intro w hSw; (try dsimp only at hSw); go_simp; try with_reducible rfl)
  try simp only [Act.put]
  try simp only [List.setIfInBounds_toArray]
  try simp only [List.set_cons_succ]
  try simp only [List.set_cons_zero]
  refine wpAnyH_take (i := 11) (v := ?_) rfl (by kernel_rfl) (by kernel_rfl) (by kernel_rfl) (fun _ _ _ h => h) (Or.inl ⟨by rfl, ?_⟩) (by assumption) ?_
  rotate_left
  · (intro w hSw; (try dsimp only at hSw); go_simp; try with_reducible rfl)
  try simp only [Act.put]
  try simp only [List.setIfInBounds_toArray]
  try simp only [List.set_cons_succ]
  try simp only [List.set_cons_zero]
  refine wpAnyH_take (i := 12) (v := ?_) rfl (by kernel_rfl) (by kernel_rfl) (by kernel_rfl) (fun _ _ _ h => h) (Or.inl ⟨by rfl, ?_⟩) (by assumption) ?_
  rotate_left
  · (intro w hSw; (try dsimp only at hSw); go_simp; try with_reducible rfl)
  try simp only [Act.put]
  try simp only [List.setIfInBounds_toArray]
  try simp only [List.set_cons_succ]
  try simp only [List.set_cons_zero]
  refine wpAnyH_take (i := 13) (v := ?_) rfl (by kernel_rfl) (by kernel_rfl) (by kernel_rfl) (fun _ _ _ h => h) (Or.inl ⟨by rfl, ?_⟩) (by assumption) ?_
  rotate_left
  · (intro w hSw; (try dsimp only at hSw); go_simp; try with_reducible rfl)
  try simp only [Act.put]
  try simp only [List.setIfInBounds_toArray]
  try simp only [List.set_cons_succ]
  try simp only [List.set_cons_zero]
  refine wpAnyH_take (i := 14) (v := ?_) rfl (by kernel_rfl) (by kernel_rfl) (by kernel_rfl) (fun _ _ _ h => h) (Or.inl ⟨by rfl, ?_⟩) (by assumption) ?_
  rotate_left
  · (intro w hSw; (try dsimp only at hSw); go_simp; try with_reducible rfl)
  try simp only [Act.put]
  try simp only [List.setIfInBounds_toArray]
  try simp only [List.set_cons_succ]
  try simp only [List.set_cons_zero]
  refine wpAnyH_ready (rs := [15]) (by kernel_rfl) (by simp) ?_
  refine AllReadyH.cons rfl (fun K hK => ?_) AllReadyH.nil
  go_simp
  refine hK.out _ _ ?_ (fun hHeldA => ?_)
  · exact sA
  clear hK hHeld
  try simp only [Act.put]
  try simp only [List.setIfInBounds_toArray]
  try simp only [List.set_cons_succ]
  try simp only [List.set_cons_zero]
  refine wpAnyH_take (i := 16) (v := ?_) rfl (by kernel_rfl) (by kernel_rfl) (by kernel_rfl) (fun _ _ _ h => h) (Or.inl ⟨by rfl, ?_⟩) (by assumption) ?_
  rotate_left
  · (intro w hSw; (try dsimp only at hSw); go_simp; try with_reducible rfl)
  try simp only [Act.put]
  try simp only [List.setIfInBounds_toArray]
  try simp only [List.set_cons_succ]
  try simp only [List.set_cons_zero]
  refine wpAnyH_done (by kernel_rfl) ?_ _
  refine LastQ.done ?_
  refine wpOp_step (i := 17) rfl (fun K hK => ?_)
  have HK := hid hK
  clear hK
  go_simp
  refine HK.out _ _ ?_
  clear HK
  clear hHeldA s0' sA y0 y1 f0 f1
  go_wp2_with fail
  refine HD.out.mono ?_
  rintro _ w2 ⟨rfl, H2⟩
  obtain ⟨w3, hw3⟩ : ∃ y, w2.setCell ⟨p, 14, none⟩ (.slice (some ⟨g, 0, none⟩) (n - 1) c14) = y := ⟨_, rfl⟩
  obtain ⟨f14, z14', t3, ht4⟩ := hT.out w2 H2.out.1 H2.out.2 w3 hw3
  have s3 := t3 w3.drew ⟨rfl, rfl, rfl, Nat.le_refl _, fun _ _ => rfl⟩
  obtain ⟨N4, hN4⟩ : ∃ y, w3.drew.heap.size = y := ⟨_, rfl⟩
  obtain ⟨w4, hw4⟩ : ∃ y, w3.drew.alloc (.cells #[.int .i64 x.seq, .int .i64 st, .int .i64 acc, .int .i64 rej, .int .i64 why, .int .i64 low, .int .i64 high, .string ⟨res.toArray⟩, .int .i64 now] 80) = y := ⟨_, rfl⟩
  have s4 := t3 w4 (by rw [← hw4]; exact (show Below w3.heap.size w3 w3.drew from ⟨rfl, rfl, rfl, Nat.le_refl _, fun _ _ => rfl⟩).alloc (Nat.le_refl _) _)
  obtain ⟨o5, c5, w5, r5, s5, f5, h6⟩ := ht4 w4 N4 hN4 hw4
  obtain ⟨w6, hw6⟩ : ∃ y, w5.setCell ⟨p, 15, none⟩ (.slice o5 (d + 1) c5) = y := ⟨_, rfl⟩
  have HR := hid r5
  have HF := h6 w6 hw6
  clear r5 h6 t3 ht4 H2 HD hT
  go_wp2_with fail
  refine wp_region_last (S := fun w' => w'.cell? ⟨p, 15, none⟩ = some (.slice o15 d c15) ∧ w'.cell? ⟨S, 0, none⟩ = some (.int .i64 x.seq) ∧ w'.cell? ⟨S, 1, none⟩ = some (.int .i64 st) ∧ w'.cell? ⟨S, 2, none⟩ = some (.int .i64 acc) ∧ w'.cell? ⟨S, 3, none⟩ = some (.int .i64 rej) ∧ w'.cell? ⟨S, 4, none⟩ = some (.int .i64 why) ∧ w'.cell? ⟨S, 5, none⟩ = some (.int .i64 low) ∧ w'.cell? ⟨S, 6, none⟩ = some (.int .i64 high) ∧ w'.cell? ⟨S, 7, none⟩ = some (.string ⟨res.toArray⟩) ∧ w'.cell? ⟨S, 8, none⟩ = some (.int .i64 now)) (n := 10) (by kernel_rfl) rfl (by kernel_rfl) (by kernel_rfl) ?_ (fun hHeld3 => ?_)
  · exact s3
  refine wpAnyH_take (i := 0) (v := ?_) rfl (by kernel_rfl) (by kernel_rfl) (by kernel_rfl) (fun _ _ _ h => h) (Or.inl ⟨by rfl, ?_⟩) (by assumption) ?_
  rotate_left
  · (intro w hSw; (try dsimp only at hSw); go_simp; try with_reducible rfl)
  try simp only [Act.put]
  try simp only [List.setIfInBounds_toArray]
  try simp only [List.set_cons_succ]
  try simp only [List.set_cons_zero]
  refine wpAnyH_take (i := 1) (v := ?_) rfl (by kernel_rfl) (by kernel_rfl) (by kernel_rfl) (fun _ _ _ h => h) (Or.inl ⟨by rfl, ?_⟩) (by assumption) ?_
  rotate_left
  · (intro w hSw; (try dsimp only at hSw); go_simp; try with_reducible rfl)
  try simp only [Act.put]
  try simp only [List.setIfInBounds_toArray]
  try simp only [List.set_cons_succ]
  try simp only [List.set_cons_zero]
  refine wpAnyH_take (i := 2) (v := ?_) rfl (by kernel_rfl) (by kernel_rfl) (by kernel_rfl) (fun _ _ _ h => h) (Or.inl ⟨by rfl, ?_⟩) (by assumption) ?_
  rotate_left
  · (intro w hSw; (try dsimp only at hSw); go_simp; try with_reducible rfl)
  try simp only [Act.put]
  try simp only [List.setIfInBounds_toArray]
  try simp only [List.set_cons_succ]
  try simp only [List.set_cons_zero]
  refine wpAnyH_take (i := 3) (v := ?_) rfl (by kernel_rfl) (by kernel_rfl) (by kernel_rfl) (fun _ _ _ h => h) (Or.inl ⟨by rfl, ?_⟩) (by assumption) ?_
  rotate_left
  · (intro w hSw; (try dsimp only at hSw); go_simp; try with_reducible rfl)
  try simp only [Act.put]
  try simp only [List.setIfInBounds_toArray]
  try simp only [List.set_cons_succ]
  try simp only [List.set_cons_zero]
  refine wpAnyH_take (i := 4) (v := ?_) rfl (by kernel_rfl) (by kernel_rfl) (by kernel_rfl) (fun _ _ _ h => h) (Or.inl ⟨by rfl, ?_⟩) (by assumption) ?_
  rotate_left
  · (intro w hSw; (try dsimp only at hSw); go_simp; try with_reducible rfl)
  try simp only [Act.put]
  try simp only [List.setIfInBounds_toArray]
  try simp only [List.set_cons_succ]
  try simp only [List.set_cons_zero]
  refine wpAnyH_take (i := 5) (v := ?_) rfl (by kernel_rfl) (by kernel_rfl) (by kernel_rfl) (fun _ _ _ h => h) (Or.inl ⟨by rfl, ?_⟩) (by assumption) ?_
  rotate_left
  · (intro w hSw; (try dsimp only at hSw); go_simp; try with_reducible rfl)
  try simp only [Act.put]
  try simp only [List.setIfInBounds_toArray]
  try simp only [List.set_cons_succ]
  try simp only [List.set_cons_zero]
  refine wpAnyH_ready (rs := [6]) (by kernel_rfl) (by simp) ?_
  refine AllReadyH.cons rfl (fun K hK => ?_) AllReadyH.nil
  go_simp
  refine hK.out _ _ ?_ (fun hHeld4 => ?_)
  · exact s4
  clear hK hHeld3
  try simp only [Act.put]
  try simp only [List.setIfInBounds_toArray]
  try simp only [List.set_cons_succ]
  try simp only [List.set_cons_zero]
  refine wpAnyH_ready (rs := [7]) (by kernel_rfl) (by simp) ?_
  refine AllReadyH.cons rfl (fun K hK => ?_) AllReadyH.nil
  refine step_app rfl (.tmp 37) (.tmp 39) 75 rfl (.slice o15 d c15) (.slice (some ⟨N4, 0, none⟩) 1 1) _ _ (by go_simp) (by go_simp) (HR.out _) ?_
  refine hK.out _ _ ?_ (fun hHeld5 => ?_)
  · exact s5
  clear hK hHeld4
  try simp only [Act.put]
  try simp only [List.setIfInBounds_toArray]
  try simp only [List.set_cons_succ]
  try simp only [List.set_cons_zero]
  refine wpAnyH_take (i := 8) (v := ?_) rfl (by kernel_rfl) (by kernel_rfl) (by kernel_rfl) (fun _ _ _ h => h) (Or.inl ⟨by rfl, ?_⟩) (by assumption) ?_
  rotate_left
  · (intro w hSw; (try dsimp only at hSw); go_simp; try with_reducible rfl)
  try simp only [Act.put]
  try simp only [List.setIfInBounds_toArray]
  try simp only [List.set_cons_succ]
  try simp only [List.set_cons_zero]
  refine wpAnyH_take (i := 9) (v := ?_) rfl (by kernel_rfl) (by kernel_rfl) (by kernel_rfl) (fun _ _ _ h => h) (Or.inl ⟨by rfl, ?_⟩) (by assumption) ?_
  rotate_left
  · (intro w hSw; (try dsimp only at hSw); go_simp; try with_reducible rfl)
  try simp only [Act.put]
  try simp only [List.setIfInBounds_toArray]
  try simp only [List.set_cons_succ]
  try simp only [List.set_cons_zero]
  refine wpAnyH_done (by kernel_rfl) ?_ _
  refine LastQ.done ?_
  refine wpOp_step (i := 10) rfl (fun K hK => ?_)
  have HK := hid hK
  clear hK
  go_simp
  refine HK.out _ _ ?_
  clear HK
  clear hHeld5 s3 s4 s5
  go_wp2
  first | go_end0 | ((try simp only [Exit.inBlock, Exit.then]); refine bodyPost_ret (results_none rfl _ _ _) rfl ?_)
  exact ⟨⟨_, rfl⟩, HF⟩
end
end Go.Proofs.YtfcbjcebkahehaaGreatDoor.Cl
