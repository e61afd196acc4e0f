/- The document's reading of a sys. -/
import Derived.Test.YtihcdahmfdijoaaGreatDoorCl
import Derived.Test.YtihcdahmfdijoaaGreatDoorDg
import Derived.Deep.RegionLaw
namespace Go.Proofs.YtihcdahmfdijoaaGreatDoor
open Go.RowKit
theorem DR.of_block {w w' : World} {p : Nat} {l : List UInt8} {E : Int} (h : DR w p l E) (hb : w'.heap[p]? = w.heap[p]?) : DR w' p l E :=
  ⟨(cells_same hb 0).1.trans h.l, (cells_same hb 1).1.trans h.e, (cells_same hb 0).2.trans h.f0, (cells_same hb 1).2.trans h.f1⟩
theorem Sole.low {w0 w w' : World} {p : Nat} (h : Sole p w0 w) (hB : Below w0.heap.size w w') : Sole p w0 w' :=
  ⟨hB.os.trans h.os, hB.tape.trans h.tape, hB.output.trans h.output, Nat.le_trans h.size hB.size, fun k hk hne => (hB.block k hk).trans (h.block k hk hne)⟩
/-- where a reading of the document is: the Reader, the block that is filled, the one that is told, what else stayed -/
structure Dt (w0 w : World) (b p : Nat) (st : Rs) (cs : List Value) : Prop where
  r : DR w p st.l st.e
  k : Bk w (b + 1) cs 30
  z : Bk w b [.int .i64 0, .string ⟨#[]⟩, .int .i64 0, .int .i64 0, .slice none 0 0] 30
  so : Sole p w0 w
  lp : p < b
  hb : b = w0.heap.size
theorem Dt.call {w0 w w' : World} {b p : Nat} {st st' : Rs} {cs : List Value} (h : Dt w0 w b p st cs) (hr : DR w' p st'.l st'.e) (hS : Sole p w w') : Dt w0 w' b p st' cs :=
  ⟨hr, h.k.sole hS (by have := h.lp; omega), h.z.sole hS (by have := h.lp; omega), h.so.trans hS, h.lp, h.hb⟩
theorem Dt.set {w0 w : World} {b p : Nat} {st : Rs} {cs : List Value} (h : Dt w0 w b p st cs) (i : Nat) (v : Value) : Dt w0 (w.setCell ⟨b + 1, i, none⟩ v) b p st (cs.set i v) :=
  ⟨h.r.of_block (Below.heap_setCell w _ v p (by have := h.lp; show p ≠ b + 1; omega)), h.k.set i v, h.z.set_ne (by omega) i v, h.so.low ((Below.refl _ _).setCell (by have := h.hb; show _ ≤ b + 1; omega) v), h.lp, h.hb⟩
theorem Dt.word {w0 w : World} {b p : Nat} {st : Rs} {cs : List Value} (h : Dt w0 w b p st cs) :
    Calls Tryz.prog 44 #[.pointer (some ⟨p, 0, none⟩)] w fun e w' => e = .returned (.int .i64 ((st.go 0 rdWord).1 : Int)) ∧ Dt w0 w' b p (st.go 0 rdWord).2 cs := by
  obtain ⟨l, E⟩ := st
  exact (duint_any p l E w h.r).mono fun e w' hp => ⟨hp.1, h.call hp.2.1 hp.2.2⟩
theorem Dt.start (p : Nat) (st : Rs) (w w2 : World) (h : DR w p st.l st.e) (h2 : w2 = (w.alloc (.cells #[.int .i64 0, .string ⟨#[]⟩, .int .i64 0, .int .i64 0, .slice none 0 0] 30)).alloc (.cells #[.int .i64 0, .string ⟨#[]⟩, .int .i64 0, .int .i64 0, .slice none 0 0] 30)) :
    Dt w w2 w.heap.size p st [.int .i64 0, .string ⟨#[]⟩, .int .i64 0, .int .i64 0, .slice none 0 0] := by
  have h3 := two_start [.int .i64 0, .string ⟨#[]⟩, .int .i64 0, .int .i64 0, .slice none 0 0] [.int .i64 0, .string ⟨#[]⟩, .int .i64 0, .int .i64 0, .slice none 0 0] 30 30 w w2 h2
  refine ⟨h.below h3.2.1, h3.1, ?_, Sole.of_below h3.2.1, h.lt, rfl⟩
  rw [h2]
  exact (Bk.new w [.int .i64 0, .string ⟨#[]⟩, .int .i64 0, .int .i64 0, .slice none 0 0] 30).below (below_new _ _) (by simp)
set_option maxRecDepth 4000 in
set_option maxHeartbeats 4000000 in
theorem dreads_any (p : Nat) (st : Rs) (w : World) (h0 : DR w p st.l st.e) :
    Calls Tryz.prog 24 #[.pointer (some ⟨p, 0, none⟩)] w fun e w' => ∃ oa cap, e = .returned (.agg #[.int .i64 (rdSys st).1.stamp, .string ⟨(rdSys st).1.machine.toArray⟩, .int .i64 (rdSys st).1.user, .int .i64 (rdSys st).1.group, .slice oa (rdSys st).1.groups.length cap]) ∧ DR w' p (rdSys st).2.l (rdSys st).2.e ∧ OwnI w' w.heap.size (.slice oa (rdSys st).1.groups.length cap) (rdSys st).1.groups ∧ Sole p w w' := by
  obtain ⟨w2, hw2⟩ : ∃ y, y = (w.alloc (.cells #[.int .i64 0, .string ⟨#[]⟩, .int .i64 0, .int .i64 0, .slice none 0 0] 30)).alloc (.cells #[.int .i64 0, .string ⟨#[]⟩, .int .i64 0, .int .i64 0, .slice none 0 0] 30) := ⟨_, rfl⟩
  have h := Dt.start p st w w2 h0 hw2
  have HW2 := hid hw2.symm
  have e2 := hw2.symm
  clear h0 hw2
  obtain ⟨b, hb⟩ : ∃ b, w.heap.size = b := ⟨_, rfl⟩
  rw [hb] at h ⊢
  obtain ⟨a, ha⟩ : ∃ a, st.go 0 rdWord = a := ⟨_, rfl⟩
  obtain ⟨m, hm⟩ : ∃ m, a.2.go [] (rdOpaque 255) = m := ⟨_, rfl⟩
  obtain ⟨c, hc⟩ : ∃ c, m.2.go 0 rdWord = c := ⟨_, rfl⟩
  obtain ⟨d, hd⟩ : ∃ d, c.2.go 0 rdWord = d := ⟨_, rfl⟩
  obtain ⟨n, hn⟩ : ∃ n, d.2.go 0 (rdCount 16) = n := ⟨_, rfl⟩
  have hS : rdSys st = (⟨a.1, m.1, c.1, d.1, (rdGs n.1 n.2).1⟩, (rdGs n.1 n.2).2) := by
    unfold rdSys rdSysR
    simp only [ha, hm, hc, hd, hn]
  rw [hS]
  have hn16 : (n.1 : Int) ≤ 16 := by
    rw [← hn]
    unfold Rs.go
    split
    · simp
    · split
      · simp
      · rename_i h0 h1
        exact (one_count 16 _ (Decidable.not_not.1 h1)).2.2.2.2
  have H0 := hid h
  have HA1 : Hid (∀ w1 cs, Dt w w1 b p st cs → Calls Tryz.prog 44 #[.pointer (some ⟨p, 0, none⟩)] w1 fun e w' => e = .returned (.int .i64 (a.1 : Int)) ∧ Dt w w' b p a.2 cs) := fun w1 cs h1 => by rw [← ha]; exact h1.word
  have HA2 : Hid (∀ w1 cs, Dt w w1 b p a.2 cs → Calls Tryz.prog 45 #[.pointer (some ⟨p, 0, none⟩), .int .i64 255] w1 fun e w' => e = .returned (.string ⟨m.1.toArray⟩) ∧ Dt w w' b p m.2 cs) := fun w1 cs h1 => by
    rw [← hm]
    exact (dopaque_any p 255 a.2.l a.2.e w1 h1.r).mono fun e w' hp => ⟨hp.1, h1.call hp.2.1 hp.2.2⟩
  have HA3 : Hid (∀ w1 cs, Dt w w1 b p m.2 cs → Calls Tryz.prog 44 #[.pointer (some ⟨p, 0, none⟩)] w1 fun e w' => e = .returned (.int .i64 (c.1 : Int)) ∧ Dt w w' b p c.2 cs) := fun w1 cs h1 => by rw [← hc]; exact h1.word
  have HA4 : Hid (∀ w1 cs, Dt w w1 b p c.2 cs → Calls Tryz.prog 44 #[.pointer (some ⟨p, 0, none⟩)] w1 fun e w' => e = .returned (.int .i64 (d.1 : Int)) ∧ Dt w w' b p d.2 cs) := fun w1 cs h1 => by rw [← hd]; exact h1.word
  have HA5 : Hid (∀ w1 cs, Dt w w1 b p d.2 cs → Calls Tryz.prog 46 #[.pointer (some ⟨p, 0, none⟩), .int .i64 16] w1 fun e w' => e = .returned (.int .i64 (n.1 : Int)) ∧ Dt w w' b p n.2 cs) := fun w1 cs h1 => by
    rw [← hn]
    exact (dcount_any p 16 d.2.l d.2.e w1 h1.r).mono fun e w' hp => ⟨hp.1, h1.call hp.2.1 hp.2.2⟩
  obtain ⟨N, sn⟩ := n
  obtain ⟨av, as_⟩ := a
  obtain ⟨mv, ms⟩ := m
  obtain ⟨cv, cs⟩ := c
  obtain ⟨dv, ds⟩ := d
  simp only at HA1 HA2 HA3 HA4 HA5 hn16 ⊢
  clear hS ha hm hc hd hn h
  generalize (av : Int) = A at HA1 ⊢
  generalize (cv : Int) = C at HA3 ⊢
  generalize (dv : Int) = D at HA4 ⊢
  go_enter Tryz.func24, Tryz.ntmps24
  go_wp2_with fail
  refine (HA1.out _ _ H0.out).mono ?_
  rintro e w1 ⟨rfl, h1⟩
  have k0 := h1.k.cell 0 rfl
  have f0 := h1.k.frozen 0
  have H1 : Hid (Dt w (w1.setCell ⟨b + 1, 0, none⟩ (.int .i64 A)) b p as_ [.int .i64 A, .string ⟨#[]⟩, .int .i64 0, .int .i64 0, .slice none 0 0]) := h1.set 0 _
  clear h1
  go_wp2_with fail
  refine (HA2.out _ _ H1.out).mono ?_
  rintro e w2 ⟨rfl, h2⟩
  have k0 := h2.k.cell 1 rfl
  have f0 := h2.k.frozen 1
  have H2 : Hid (Dt w (w2.setCell ⟨b + 1, 1, none⟩ (.string ⟨mv.toArray⟩)) b p ms [.int .i64 A, .string ⟨mv.toArray⟩, .int .i64 0, .int .i64 0, .slice none 0 0]) := h2.set 1 _
  clear h2
  go_wp2_with fail
  refine (HA3.out _ _ H2.out).mono ?_
  rintro e w3 ⟨rfl, h3⟩
  have k0 := h3.k.cell 2 rfl
  have f0 := h3.k.frozen 2
  have H3 : Hid (Dt w (w3.setCell ⟨b + 1, 2, none⟩ (.int .i64 C)) b p cs [.int .i64 A, .string ⟨mv.toArray⟩, .int .i64 C, .int .i64 0, .slice none 0 0]) := h3.set 2 _
  clear h3
  go_wp2_with fail
  refine (HA4.out _ _ H3.out).mono ?_
  rintro e w4 ⟨rfl, h4⟩
  have k0 := h4.k.cell 3 rfl
  have f0 := h4.k.frozen 3
  have H4 : Hid (Dt w (w4.setCell ⟨b + 1, 3, none⟩ (.int .i64 D)) b p ds [.int .i64 A, .string ⟨mv.toArray⟩, .int .i64 C, .int .i64 D, .slice none 0 0]) := h4.set 3 _
  clear h4
  go_wp2_with fail
  refine (HA5.out _ _ H4.out).mono ?_
  rintro e w5 ⟨rfl, h5⟩
  have H5 := hid h5
  clear h5 k0 f0
  go_wp2_with fail
  go_loopw [5] (fun ix wr => ∃ (j : Nat) (a : Option Addr) (cap : Nat), ix = .int .i64 j ∧ j ≤ N ∧ Hid (Dt w wr b p (rdGs j sn).2 [.int .i64 A, .string ⟨mv.toArray⟩, .int .i64 C, .int .i64 D, .slice a j cap]) ∧ Hid (OwnI wr (b + 2) (.slice a j cap) (rdGs j sn).1) ∧ Hid ((rdGs j sn).1.length = j)) (fun ix _ => 200 - (intOf ix).toNat)
  case atStart => exact ⟨0, none, 0, rfl, by omega, H5, OwnI.nil _ _, rfl⟩
  case round =>
    obtain ⟨j, oa, cap, rfl, hj, HT, HO, HJ⟩ := hrel
    by_cases hlt : j < N
    · obtain ⟨x, hx⟩ : ∃ x, (rdGs j sn).2.go 0 rdWord = x := ⟨_, rfl⟩
      have HSN : Hid (rdGs (j + 1) sn = ((rdGs j sn).1 ++ [(x.1 : Int)], x.2)) := by show _ = _; rw [rdGs_snoc, hx]
      have HVB : Hid (∀ m, Calls Tryz.prog 44 #[.pointer (some ⟨p, 0, none⟩)] (wr.drewN m) fun e w' => e = .returned (.int .i64 (x.1 : Int)) ∧ Dt w w' b p x.2 [.int .i64 A, .string ⟨mv.toArray⟩, .int .i64 C, .int .i64 D, .slice oa j cap] ∧ Sole p wr w') := fun m => by
        have hB : Below wr.heap.size wr (wr.drewN m) := below_drew (Below.refl _ _) m
        have hr := duint_any p (rdGs j sn).2.l (rdGs j sn).2.e (wr.drewN m) (HT.out.r.below hB)
        refine hr.mono fun e w' hp => ?_
        have e1 : ((⟨(rdGs j sn).2.l, (rdGs j sn).2.e⟩ : Rs).go 0 rdWord) = x := hx
        have hS : Sole p wr w' := (Sole.drewN p wr m).trans hp.2.2
        refine ⟨by rw [hp.1, e1], HT.out.call ?_ hS, hS⟩
        have := hp.2.1
        rwa [e1] at this
      generalize (x.1 : Int) = X at HVB HSN
      have v4 := HT.out.k.cell 4 rfl
      have HZ : Hid (p < wr.heap.size) := HT.out.r.lt
      clear hx
      go_wp2_with fail
      go_region_law (first
        | (refine step_calls rfl 44 #[.pointer (some ⟨p, 0, none⟩)] (by go_simp) _ (HVB.out _) ?_
           rintro e w7 ⟨rfl, hT7, hS7⟩
           refine ⟨_, rfl, ?_⟩
           obtain ⟨wb, hwb⟩ : ∃ y, w7.alloc (.cells #[.int .i64 X] 3) = y := ⟨_, rfl⟩
           have hBb : Below w7.heap.size w7 wb := by rw [← hwb]; exact below_new _ _
           have HO7 : Hid (OwnI wb (b + 2) (.slice oa j cap) (rdGs j sn).1) := HO.out.of_blocks (fun g hg => by
             have h1 := HO.out.lt g hg
             rw [hBb.block g (Nat.lt_of_lt_of_le h1.2 hS7.size)]
             exact hS7.block g h1.2 (by have := HT.out.lp; omega))
           have HQ : Hid (wb.heap[w7.heap.size]? = some (.cells #[.int .i64 X] 3)) := by
             show _ = _
             rw [← hwb]; exact Bk.new w7 [.int .i64 X] _
           have u4 := hT7.k.cell 4 rfl
           have HTb : Hid (Dt w wb b p x.2 [.int .i64 A, .string ⟨mv.toArray⟩, .int .i64 C, .int .i64 D, .slice oa j cap]) := ⟨hT7.r.below hBb, hT7.k.below hBb hT7.k.lt, hT7.z.below hBb hT7.z.lt, hT7.so.low (hBb.mono hT7.so.size), hT7.lp, hT7.hb⟩
           have x4 := HTb.out.k.cell 4 rfl
           have HPZ : Hid (b + 2 ≤ wb.heap.size) := HTb.out.k.lt
           clear hT7 hS7 hBb)
        | (refine step_appI _ rfl _ _ rfl (b + 2) (rdGs j sn).1 (.slice oa j cap) HO7.out rfl (by have h1 := HJ.out; omega) w7.heap.size X rfl HQ.out HPZ.out ?_
           intro gq cq w8 hO8 hg8 hat8
           have HO8 : Hid (OwnI w8 (b + 2) (.slice (some ⟨gq, 0, none⟩) (j + 1) cq) ((rdGs j sn).1 ++ [X])) := by have h1 := HJ.out; rw [h1] at hO8; exact hO8
           have HG8 := hid hg8
           have HOW : Hid (∀ q, (Value.slice oa j cap).ownBlock = some q → b + 2 ≤ q) := fun q e => (HO7.out.lt q e).1
           have HT8 : Hid (Dt w w8 b p x.2 [.int .i64 A, .string ⟨mv.toArray⟩, .int .i64 C, .int .i64 D, .slice oa j cap]) := by
             have h1 := HTb.out
             exact ⟨h1.r.of_block (hg8.block p h1.r.lt (fun e => by have := HOW.out p e.symm; have := h1.lp; omega)), (hg8.block (b + 1) h1.k.lt (fun e => by have := HOW.out (b + 1) e.symm; omega)).trans h1.k, (hg8.block b h1.z.lt (fun e => by have := HOW.out b e.symm; omega)).trans h1.z, h1.so.low ((Below.refl _ _).grown hg8 h1.so.size (fun k e => by have := HOW.out k e; have := h1.hb; omega)), h1.lp, h1.hb⟩
           have z4 := HT8.out.k.cell 4 rfl
           have y4 := HT8.out.k.frozen 4
           have HA8 : Hid (gq ≠ b + 1) := by
             show gq ≠ b + 1
             have h1 := (HO8.out.lt gq rfl).1
             have h2 := HT8.out.lp
             omega
           rw [HJ.out]
           clear hO8 hg8 hat8))
      all_goals (
        have HT9 : Hid (Dt w (w8.setCell ⟨b + 1, 4, none⟩ (.slice (some ⟨gq, 0, none⟩) (j + 1) cq)) b p (rdGs (j + 1) sn).2 [.int .i64 A, .string ⟨mv.toArray⟩, .int .i64 C, .int .i64 D, .slice (some ⟨gq, 0, none⟩) (j + 1) cq]) := by
          show Dt _ _ _ _ _ _
          rw [HSN.out]; exact HT8.out.set 4 _
        have HO9 : Hid (OwnI (w8.setCell ⟨b + 1, 4, none⟩ (.slice (some ⟨gq, 0, none⟩) (j + 1) cq)) (b + 2) (.slice (some ⟨gq, 0, none⟩) (j + 1) cq) (rdGs (j + 1) sn).1) := by
          show OwnI _ _ _ _
          rw [HSN.out]
          exact HO8.out.of_blocks (fun g hg => Below.heap_setCell _ _ _ g (fun e => HA8.out (by cases hg; exact e)))
        have HJ9 : Hid ((rdGs (j + 1) sn).1.length = j + 1) := by
          show _ = _
          rw [HSN.out]; simp [HJ.out]
        clear z4 y4
        go_wp2
        go_roundw
        case rel => exact ⟨j + 1, _, _, by go_num, by omega, HT9, HO9, HJ9⟩
        case measure => simp [intOf]; omega)
    · obtain rfl : j = N := by omega
      have hbb := HT.out.hb
      have c0 := HT.out.k.cell 0 rfl
      have c1 := HT.out.k.cell 1 rfl
      have c2 := HT.out.k.cell 2 rfl
      have c3 := HT.out.k.cell 3 rfl
      have c4 := HT.out.k.cell 4 rfl
      have z0 := HT.out.z.cell 0 rfl
      have z1 := HT.out.z.cell 1 rfl
      have z2 := HT.out.z.cell 2 rfl
      have z3 := HT.out.z.cell 3 rfl
      have z4 := HT.out.z.cell 4 rfl
      have f0 := HT.out.z.frozen 0
      have f1 := HT.out.z.frozen 1
      have f2 := HT.out.z.frozen 2
      have f3 := HT.out.z.frozen 3
      have f4 := HT.out.z.frozen 4
      have HZ := HT.out.z.set5 (.int .i64 A) (.string ⟨mv.toArray⟩) (.int .i64 C) (.int .i64 D) (.slice oa j cap)
      have q0 := HZ.cell 0 rfl
      have q1 := HZ.cell 1 rfl
      have q2 := HZ.cell 2 rfl
      have q3 := HZ.cell 3 rfl
      have q4 := HZ.cell 4 rfl
      have HE := hid ((HO.out.of_blocks (fun g hg => set5_ne wr b g (.int .i64 A) (.string ⟨mv.toArray⟩) (.int .i64 C) (.int .i64 D) (.slice oa j cap) (by have := (HO.out.lt g hg).1; omega))).mono (show b ≤ b + 2 by omega))
      have HR := hid (HT.out.r.of_block (set5_ne wr b p (.int .i64 A) (.string ⟨mv.toArray⟩) (.int .i64 C) (.int .i64 D) (.slice oa j cap) (by have := HT.out.lp; omega)))
      have HSo := hid (HT.out.so.low (below_set5 (b := b) (Below.refl _ wr) (by omega) (.int .i64 A) (.string ⟨mv.toArray⟩) (.int .i64 C) (.int .i64 D) (.slice oa j cap)))
      clear HZ hbb
      go_wp2
      refine bodyPost_ret (v := .agg #[.int .i64 A, .string ⟨mv.toArray⟩, .int .i64 C, .int .i64 D, .slice oa j cap]) (by simp [results, Tryz.results24, go_sem, q0, q1, q2, q3, q4]) rfl ⟨oa, cap, by rw [HJ.out], HR.out, ?_, HSo.out⟩
      rw [HJ.out]
      exact HE.out
end Go.Proofs.YtihcdahmfdijoaaGreatDoor
