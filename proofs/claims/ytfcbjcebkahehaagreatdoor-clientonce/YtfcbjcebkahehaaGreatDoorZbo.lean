/- slices.Delete of one of the calls that wait. A call that waits no more, an outcome more: in memory. -/
import Derived.Test.YtfcbjcebkahehaaGreatDoorZbl
import Derived.Test.YtfcbjcebkahehaaGreatDoorLq
import Derived.Lib.SliceRun
import Derived.Deep.RegionLaw
namespace Go.Proofs.YtfcbjcebkahehaaGreatDoor.Cl
open Go.RowKit
theorem under94 : Tryz.prog.underlying 94 = some (.slice 109) := by kernel_rfl
theorem zero109 (w : World) : (zeroValue 109).run Tryz.prog w = .ok (.pointer none) w := by kernel_rfl
/-- the block behind it -/
def delA (cur : Array Value) (n a : Nat) : Array Value := (cur.toList.take a ++ (cur.toList.take n).drop (a + 1) ++ cur.toList.drop (a + (n - (a + 1)))).toArray
set_option maxRecDepth 8000 in
set_option maxHeartbeats 4000000 in
theorem del_core (g n cap i j : Nat) (cur : Array Value) (w : World) (hg : w.heap[g]? = some (.cells cur 109 (0, 0))) (hcur : cur.size = cap) (hj1 : j = i + 1) (hj : j ≤ n) (hcap : n ≤ cap) (h1 : ∀ u ∈ cur.toList.take n, u.oneCell' = true) :
    Calls Tryz.prog 96 #[.slice (some ⟨g, 0, none⟩) n cap, .int .i64 (i : Int), .int .i64 (j : Int)] w fun e w' => e = .returned (.slice (some ⟨g, 0, none⟩) (n - 1) cap) ∧ w' = (w.drew.setRow g (delA cur n i)).setCell ⟨g, n - 1, none⟩ (.pointer none) := by
  obtain ⟨news, hnews⟩ : ∃ news, news = (cur.toList.take n).drop j := ⟨_, rfl⟩
  have hlen : news.length = n - j := by rw [hnews]; simp; omega
  obtain ⟨m, hmm⟩ : ∃ m, i + (n - j) = m := ⟨_, rfl⟩
  have hnm : n = m + 1 := by omega
  obtain ⟨A, hA, hsrc⟩ : ∃ A : Addr, (if cap = j then some (⟨g, 0, none⟩ : Addr) else some ⟨g, j, none⟩) = some A ∧ Hid (∀ t u, news[t]? = some u → w.drew.cell? (A.add t) = some u) := by
    have hget : ∀ t u, news[t]? = some u → w.drew.cell? ⟨g, j + t, none⟩ = some u := fun t u hu => by
      have ht : t < n - j := by rw [← hlen]; exact (List.getElem?_eq_some_iff.1 hu).1
      rw [hnews, List.getElem?_drop, List.getElem?_take] at hu
      rw [if_pos (by omega), Array.getElem?_toList] at hu
      show w.cell? _ = _
      exact cell_at hg hu
    by_cases h : cap = j
    · refine ⟨⟨g, 0, none⟩, by simp [h], fun t u hu => ?_⟩
      have h0 : news.length = 0 := by rw [hlen]; omega
      rw [List.length_eq_zero_iff.1 h0] at hu
      simp at hu
    · exact ⟨⟨g, j, none⟩, by simp [h], fun t u hu => by rw [Addr.add_lit]; exact hget t u hu⟩
  have s2 : ∀ u ∈ news, u.oneCell' = true := fun u hu => h1 u (by rw [hnews] at hu; exact List.mem_of_mem_drop hu)
  obtain ⟨i0, hi0, hi1, hi2, hi3⟩ := info109
  obtain ⟨W1, hW1⟩ : ∃ W1, W1 = w.drew.setRow g (delA cur n i) := ⟨_, rfl⟩
  have hrun : Hid (∀ r, (Builtin.append_ #[94, 94] r #[.slice (some ⟨g, 0, none⟩) i cap, .slice (some A) (n - j) (cap - j)]).run Tryz.prog w.drew = .ok (.slice (some ⟨g, 0, none⟩) m cap) W1) := fun r => by
    have h := run_append_room (P := Tryz.prog) w.drew 94 r 109 i0 under94 hi0 g i cap cur hg A (n - j) (cap - j) news (by rw [hi2, Nat.mul_one]; exact hlen) hsrc.out s2 (by omega) (by rw [hi2, hlen, hcur]; omega)
    rw [h, hmm, hW1, hi2, hlen]
    unfold delA
    rw [hnews, Nat.mul_one, hj1]
  have hg1 : W1.heap[g]? = some (.cells (delA cur n i) 109 (0, 0)) := by rw [hW1]; exact setRow_heap w.drew g cur _ 109 (0, 0) hg
  have hsz : (delA cur n i).size = cap := by unfold delA; simp; omega
  have hcl : ∀ ty, (Builtin.clear_ #[94] ty #[.slice (some ⟨g, m, none⟩) (n - m) (cap - m)]).run Tryz.prog W1 = .ok (.tuple #[]) (W1.setCell ⟨g, m, none⟩ (.pointer none)) := fun ty => by
    have h := Lib.run_clear_slice (P := Tryz.prog) W1 94 109 ty (.pointer none) under94 zero109 rfl rfl g m (n - m) (cap - m) (by omega) (fun t ht => by
      rw [cell_at hg1 (k := m + t) (v := (delA cur n i)[m + t]'(by omega)) (Array.getElem?_eq_getElem _)]; rfl) (fun t ht => frozen_at hg1 _)
    rw [h, show n - m = 1 by omega]
    rfl
  have HW : Hid (W1 = w.drew.setRow g (delA cur n i)) := hW1
  have hic : i ≤ cap := by omega
  have hjc : j ≤ cap := by omega
  have hij : i ≤ j := by omega
  have hne : ¬ i = j := by omega
  have hmn : m ≤ n := by omega
  have hmc : ¬ cap = m := by omega
  have hmc2 : m ≤ cap := by omega
  have HF : Hid (n = m + 1) := hnm
  clear hW1 hg1 hg hnews hlen s2 hsrc hsz hcur hmm hnm hj1 h1
  go_enter Tryz.func96, Tryz.ntmps96
  go_wp2_with fail
  go_region_law (refine step_app rfl (.tmp 22) (.tmp 25) 94 rfl (.slice (some ⟨g, 0, none⟩) i cap) (.slice (some A) (n - j) (cap - j)) _ _ (by go_simp) (by go_simp) (hrun.out _) ?_)
  go_wp2
  go_ret
  rw [← HW.out, show n - 1 = m by have := HF.out; omega]
  exact ⟨rfl, rfl⟩
end Go.Proofs.YtfcbjcebkahehaaGreatDoor.Cl
namespace Go.Proofs.YtfcbjcebkahehaaGreatDoor.Cl
open Go.RowKit
theorem fm_ptr (l : List Nat) : l.flatMap ptrC = l.map ptr := by
  induction l with
  | nil => rfl
  | cons x l ih => simp [List.flatMap_cons, ptrC, ih]
theorem RW.del {K : Nat → Nat} {w : World} {B t g n cap : Nat} {l1 l2 : List Nat} {b : Nat} (h : RW 109 1 ptrC K w B t (.slice (some ⟨g, 0, none⟩) n cap) (l1 ++ b :: l2)) (hn : (l1 ++ b :: l2).length = n) :
    Calls Tryz.prog 96 #[.slice (some ⟨g, 0, none⟩) n cap, .int .i64 (l1.length : Int), .int .i64 ((l1.length + 1 : Nat) : Int)] w fun e w' => e = .returned (.slice (some ⟨g, 0, none⟩) (n - 1) cap) ∧ RW 109 1 ptrC K w' B t (.slice (some ⟨g, 0, none⟩) (n - 1) cap) (l1 ++ l2) ∧ Mv (fun u => u = t) w w' K K := by
  have hk := h.k g rfl
  rcases h.own.2 with ⟨e, _⟩ | ⟨g', cap', cur, e, h1, h2, h3, h4, h5, h6⟩
  · cases e
  · simp only [Value.slice.injEq, Option.some.injEq, Addr.mk.injEq] at e
    obtain ⟨⟨rfl, _⟩, _, rfl⟩ := e
    rw [hn, Nat.mul_one] at h6
    rw [Nat.mul_one] at h5
    rw [hn] at h3
    have hln : l1.length + 1 + l2.length = n := by rw [← hn]; simp; omega
    have h6' : cur.toList.take n = l1.map ptr ++ ptr b :: l2.map ptr := by rw [h6, fm_ptr]; simp
    refine (del_core g n cap l1.length (l1.length + 1) cur w h2 h5 rfl (by omega) h3 (fun u hu => ?_)).mono ?_
    · rw [h6'] at hu
      rcases List.mem_append.1 hu with e | e
      · obtain ⟨_, _, rfl⟩ := List.mem_map.1 e; rfl
      · rcases List.mem_cons.1 e with rfl | e
        · rfl
        · obtain ⟨_, _, rfl⟩ := List.mem_map.1 e; rfl
    · rintro _ w' ⟨rfl, rfl⟩
      have hd : (delA cur n l1.length).toList = (l1 ++ l2).map ptr ++ cur.toList.drop (l1.length + (n - (l1.length + 1))) := by
        unfold delA
        have t1 : cur.toList.take l1.length = l1.map ptr := by
          have : cur.toList.take l1.length = (cur.toList.take n).take l1.length := by rw [List.take_take, Nat.min_eq_left (by omega)]
          rw [this, h6', List.take_append_of_le_length (by simp), List.take_of_length_le (by simp)]
        have t2 : (cur.toList.take n).drop (l1.length + 1) = l2.map ptr := by
          rw [h6']
          rw [List.drop_append, List.drop_eq_nil_of_le (by simp)]
          simp
        rw [t1, t2]
        simp
      have hg1 : (w.drew.setRow g (delA cur n l1.length)).heap[g]? = some (.cells (delA cur n l1.length) 109 (0, 0)) := setRow_heap w.drew g cur _ 109 (0, 0) h2
      have hsz : (delA cur n l1.length).size = cap := by
        rw [← Array.length_toList, hd]
        simp
        omega
      refine ⟨rfl, ⟨⟨by rw [fm_ptr]; simp, .inr ⟨g, cap, _, ?_, h1, set_at hg1 _ _, ?_, h4, ?_, ?_⟩⟩, fun g' hg' => by cases hg'; exact hk⟩, ?_⟩
      · rw [show (l1 ++ l2).length = n - 1 by rw [List.length_append]; omega]
      · rw [List.length_append]; omega
      · rw [Array.size_setIfInBounds, hsz, Nat.mul_one]
      · rw [Array.toList_setIfInBounds, Nat.mul_one, show (l1 ++ l2).length = n - 1 by rw [List.length_append]; omega, List.take_set_of_le (Nat.le_refl _), hd, List.take_append_of_le_length (by simp; omega), List.take_of_length_le (by simp; omega), fm_ptr]
      · refine ⟨rfl, rfl, rfl, by simp [World.setCell], fun _ _ => rfl, fun b' hb' ht => ?_⟩
        have hne : b' ≠ g := fun e => ht (by rw [e]; exact hk)
        rw [Below.heap_setCell _ _ _ _ hne, setRow_other _ _ _ _ hne]
        rfl
theorem info80 : ∃ i z, Tryz.prog.info? 80 = some i ∧ i.zero = some z ∧ i.size = 9 ∧ i.bytes = 80 ∧ z.cells.size = 9 :=
  ⟨(Tryz.prog.info? 80).getD default, .agg #[.int .i64 0, .int .i64 0, .int .i64 0, .int .i64 0, .int .i64 0, .int .i64 0, .int .i64 0, .string ⟨#[]⟩, .int .i64 0], by kernel_rfl, by kernel_rfl, by kernel_rfl, by kernel_rfl, by kernel_rfl⟩
theorem under75 : Tryz.prog.underlying 75 = some (.slice 80) := by kernel_rfl
theorem app75 {K : Nat → Nat} {w : World} {B t : Nat} {v : Value} {l : List Oc} (h : RW 80 9 ocC K w B t v l) (hB : B ≤ w.heap.size) {N : Nat} {x : Oc} (hb : w.heap[N]? = some (.cells (ocC x).toArray 80 (0, 0))) (hl : l.length ≤ 100000000) :
    ∃ oa c w' K', (∀ r, (Builtin.append_ #[75, 75] r #[v, .slice (some ⟨N, 0, none⟩) 1 1]).run Tryz.prog w = .ok (.slice oa (l.length + 1) c) w') ∧ RW 80 9 ocC K' w' B t (.slice oa (l.length + 1) c) (l ++ [x]) ∧ Mv (fun x => x = t) w w' K K' := by
  obtain ⟨i, z, hi, hz, hs, hby, hzs⟩ := info80
  obtain ⟨v', w', K', q1, q2, q3⟩ := RW.app (ty := 75) under75 hi hz hs hby hzs (by omega) ocL ocO h hB (N := N) (x := x) (cs := (ocC x).toArray) rfl hb (by omega) (by omega)
  obtain ⟨oa, c, e, _, _⟩ := q2.form
  rw [List.length_append, List.length_singleton] at e
  subst e
  exact ⟨oa, c, w', K', q1, q2, q3⟩
section
variable {K K' : Nat → Nat} {w w' : World} {B t p : Nat} {c : Cf} {oa : Option Addr} {cap : Nat} {next now : Int} {L : List Wt} {D : List Oc} {vw vd : Value} {q : Mq}
/-- one call less, its list stored -/
theorem PC.less {v : Value} {L1 L2 : List Wt} {x : Wt} (h : PC K w B t p c oa cap next now (L1 ++ x :: L2) D vw vd q) (R : RW 109 1 ptrC K w' B (t + 1) v ((L1 ++ L2).map Wt.b)) (m : Mv (fun u => u = t + 1) w w' K K) :
    PC K (w'.setCell ⟨p, 14, none⟩ v) B t p c oa cap next now (L1 ++ L2) D v vd q ∧ Mv (fun u => u = t ∨ u = t + 1) w (w'.setCell ⟨p, 14, none⟩ v) K K := by
  have cl := h.cl.mv m (by omega)
  have m2 : Mv (fun u => u = t) w' (w'.setCell ⟨p, 14, none⟩ v) K K := Mv.of_set w' K ⟨p, 14, none⟩ v cl.k
  have mm : Mv (fun u => u = t ∨ u = t + 1) w (w'.setCell ⟨p, 14, none⟩ v) K K := (m.mono (fun u e => .inr e)).trans (m2.mono (fun u e => .inl e))
  have me := h.me
  have hsub : (L1 ++ L2).Sublist (L1 ++ x :: L2) := List.Sublist.append (List.Sublist.refl _) (List.sublist_cons_self _ _)
  refine ⟨⟨⟨set_at cl.at_ 14 _, cl.k⟩, R.mv m2 (by omega), h.dn.mv mm (by omega), fun y hy => (h.cs y (hsub.subset hy)).mv mm (by omega) (by omega), h.nd.sublist (hsub.map _), me.mv mm (by omega), h.gs.mv mm (by omega), h.gl, h.ok, Nat.le_trans h.hB mm.size, h.er mm (fun t' e => by omega), h.h0' mm, h.b1⟩, mm⟩
/-- one outcome more -/
theorem PC.told (h : PC K w B t p c oa cap next now L D vw vd q) {N : Nat} {o : Oc} (hN : w.heap[N]? = some (.cells (ocC o).toArray 80)) (hl : D.length ≤ 100000000) :
    ∃ o' c' w' K', (∀ r, (Builtin.append_ #[75, 75] r #[vd, .slice (some ⟨N, 0, none⟩) 1 1]).run Tryz.prog w = .ok (.slice o' (D.length + 1) c') w') ∧ w'.heap[p]? = w.heap[p]? ∧ PC K' (w'.setCell ⟨p, 15, none⟩ (.slice o' (D.length + 1) c')) B t p c oa cap next now L (D ++ [o]) vw (.slice o' (D.length + 1) c') q ∧ Mv (fun u => u = t ∨ u = t + 2) w (w'.setCell ⟨p, 15, none⟩ (.slice o' (D.length + 1) c')) K K' := by
  obtain ⟨o', c', w', K', hr, R, m⟩ := app75 h.dn h.hB hN hl
  have cl := h.cl.mv m (by omega)
  obtain ⟨v, hv⟩ : ∃ v, Value.slice o' (D.length + 1) c' = v := ⟨_, rfl⟩
  rw [hv] at R
  refine ⟨o', c', w', K', hr, cl.at_.trans h.cl.at_.symm, ?_⟩
  rw [hv]
  have m2 : Mv (fun u => u = t) w' (w'.setCell ⟨p, 15, none⟩ v) K' K' := Mv.of_set w' K' ⟨p, 15, none⟩ v cl.k
  have mm : Mv (fun u => u = t ∨ u = t + 2) w (w'.setCell ⟨p, 15, none⟩ v) K K' := (m.mono (fun u e => .inr e)).trans (m2.mono (fun u e => .inl e))
  have me := h.me
  exact ⟨⟨⟨set_at cl.at_ 15 _, cl.k⟩, h.wr.mv mm (by omega), R.mv m2 (by omega), fun y hy => (h.cs y hy).mv mm (by omega) (by omega), h.nd, me.mv mm (by omega), h.gs.mv mm (by omega), h.gl, h.ok, Nat.le_trans h.hB mm.size, h.er mm (fun t' e => by omega), h.h0' mm, h.b1⟩, mm⟩
end
end Go.Proofs.YtfcbjcebkahehaaGreatDoor.Cl
