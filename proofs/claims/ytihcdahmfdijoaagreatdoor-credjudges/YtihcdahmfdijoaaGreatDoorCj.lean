/- The program reads who somebody says to be: the walk. -/
import Derived.Test.YtihcdahmfdijoaaGreatDoorCi
import Derived.Deep.RegionLaw
namespace Go.Proofs.YtihcdahmfdijoaaGreatDoor
open Go.RowKit
/-- where a reading is: the Reader, the block that is filled, what lies below it -/
structure At (w0 w : World) (b p : Nat) (st : Rs) (cs : List Value) (t : TypeId) : Prop where
  r : RR w p st.l st.e
  k : Bk w b cs t
  low : Below b w0 w
  lp : b < p
theorem At.call {w0 w w' : World} {b p : Nat} {st st' : Rs} {cs : List Value} {t : TypeId} (h : At w0 w b p st cs t) (hr : RR w' p st'.l st'.e) (hS : Sole p w w') : At w0 w' b p st' cs t :=
  ⟨hr, h.k.sole hS (by have := h.lp; omega), h.low.trans (hS.belowB (by have := h.lp; omega) (by have := h.k.lt; omega)), h.lp⟩
theorem At.set {w0 w : World} {b p : Nat} {st : Rs} {cs : List Value} {t : TypeId} (h : At w0 w b p st cs t) (i : Nat) (v : Value) : At w0 (w.setCell ⟨b, i, none⟩ v) b p st (cs.set i v) t :=
  ⟨h.r.set_ne (by have := h.lp; omega) i v, h.k.set i v, h.low.setCell (Nat.le_refl _) v, h.lp⟩
/-- one reading of a word, behind which it is laid into the block -/
theorem At.word {w0 w : World} {b p : Nat} {st : Rs} {cs : List Value} {t : TypeId} (h : At w0 w b p st cs t) :
    Calls Tryz.prog 39 #[.pointer (some ⟨p, 0, none⟩)] w fun e w' => e = .returned (.int .i64 ((st.go 0 rdWord).1 : Int)) ∧ At w0 w' b p (st.go 0 rdWord).2 cs t := by
  obtain ⟨l, E⟩ := st
  exact (ruint_any p l E w h.r).mono fun e w' hp => ⟨hp.1, h.call hp.2.1 hp.2.2⟩
set_option maxRecDepth 4000 in
set_option maxHeartbeats 4000000 in
theorem readWho_any (b p : Nat) (rest : List Value) (t : TypeId) (st : Rs) (w0 w : World) (h : At w0 w b p st ([.int .i64 0, .string ⟨#[]⟩, .int .i64 0, .int .i64 0, .slice none 0 0] ++ rest) t) (hl : st.l.length ≤ 281474976710656) :
    Calls Tryz.prog 21 #[.pointer (some ⟨b, 0, none⟩), .pointer (some ⟨p, 0, none⟩)] w fun e w' => e = .returned (.tuple #[]) ∧ ∃ sl, At w0 w' b p (rdSys st).2 ([.int .i64 (rdSys st).1.stamp, .string ⟨(rdSys st).1.machine.toArray⟩, .int .i64 (rdSys st).1.user, .int .i64 (rdSys st).1.group, sl] ++ rest) t ∧ OwnI w' (p + 1) sl (rdSys st).1.groups := by
  obtain ⟨a, ha⟩ : ∃ a, st.go 0 rdWord = a := ⟨_, rfl⟩
  obtain ⟨m, hm⟩ : ∃ m, a.2.go [] (rdOpaque 255) = m := ⟨_, rfl⟩
  obtain ⟨c, hc⟩ : ∃ c, m.2.go 0 rdWord = c := ⟨_, rfl⟩
  obtain ⟨d, hd⟩ : ∃ d, c.2.go 0 rdWord = d := ⟨_, rfl⟩
  obtain ⟨n, hn⟩ : ∃ n, d.2.go 0 (rdCount 16) = n := ⟨_, rfl⟩
  have hS : rdSys st = (⟨a.1, m.1, c.1, d.1, (rdGs n.1 n.2).1⟩, (rdGs n.1 n.2).2) := by
    unfold rdSys rdSysR
    simp only [ha, hm, hc, hd, hn]
  rw [hS]
  have hn16 : (n.1 : Int) ≤ 16 := by
    rw [← hn]
    unfold Rs.go
    split
    · simp
    · split
      · simp
      · rename_i h0 h1
        exact (one_count 16 _ (Decidable.not_not.1 h1)).2.2.2.2
  have H0 := hid h
  have HA1 : Hid (∀ w1 cs, At w0 w1 b p st cs t → Calls Tryz.prog 39 #[.pointer (some ⟨p, 0, none⟩)] w1 fun e w' => e = .returned (.int .i64 (a.1 : Int)) ∧ At w0 w' b p a.2 cs t) := fun w1 cs h1 => by rw [← ha]; exact h1.word
  have HA2 : Hid (∀ w1 cs, At w0 w1 b p a.2 cs t → Calls Tryz.prog 40 #[.pointer (some ⟨p, 0, none⟩), .int .i64 255] w1 fun e w' => e = .returned (.string ⟨m.1.toArray⟩) ∧ At w0 w' b p m.2 cs t) := fun w1 cs h1 => by
    have hl2 : a.2.l.length ≤ 281474976710656 := by rw [← ha]; exact Nat.le_trans (go_len _ _ _) hl
    rw [← hm]
    exact (ropaque_any p 255 a.2.l a.2.e w1 h1.r hl2).mono fun e w' hp => ⟨hp.1, h1.call hp.2.1 hp.2.2⟩
  have HA3 : Hid (∀ w1 cs, At w0 w1 b p m.2 cs t → Calls Tryz.prog 39 #[.pointer (some ⟨p, 0, none⟩)] w1 fun e w' => e = .returned (.int .i64 (c.1 : Int)) ∧ At w0 w' b p c.2 cs t) := fun w1 cs h1 => by rw [← hc]; exact h1.word
  have HA4 : Hid (∀ w1 cs, At w0 w1 b p c.2 cs t → Calls Tryz.prog 39 #[.pointer (some ⟨p, 0, none⟩)] w1 fun e w' => e = .returned (.int .i64 (d.1 : Int)) ∧ At w0 w' b p d.2 cs t) := fun w1 cs h1 => by rw [← hd]; exact h1.word
  have HA5 : Hid (∀ w1 cs, At w0 w1 b p d.2 cs t → Calls Tryz.prog 41 #[.pointer (some ⟨p, 0, none⟩), .int .i64 16] w1 fun e w' => e = .returned (.int .i64 (n.1 : Int)) ∧ At w0 w' b p n.2 cs t) := fun w1 cs h1 => by
    rw [← hn]
    exact (rcount_any p 16 d.2.l d.2.e w1 h1.r).mono fun e w' hp => ⟨hp.1, h1.call hp.2.1 hp.2.2⟩
  obtain ⟨N, sn⟩ := n
  obtain ⟨av, as_⟩ := a
  obtain ⟨mv, ms⟩ := m
  obtain ⟨cv, cs⟩ := c
  obtain ⟨dv, ds⟩ := d
  simp only at HA1 HA2 HA3 HA4 HA5 hn16 ⊢
  clear hS ha hm hc hd hn h hl
  generalize (av : Int) = A at HA1 ⊢
  generalize (cv : Int) = C at HA3 ⊢
  generalize (dv : Int) = D at HA4 ⊢
  have c0 := H0.out.k.cell 0 rfl
  go_enter Tryz.func21, Tryz.ntmps21
  go_wp2_with fail
  refine (HA1.out _ _ H0.out).mono ?_
  rintro e w1 ⟨rfl, h1⟩
  have k0 := h1.k.cell 0 rfl
  have f0 := h1.k.frozen 0
  have H1 : Hid (At w0 (w1.setCell ⟨b, 0, none⟩ (.int .i64 A)) b p as_ ([.int .i64 A, .string ⟨#[]⟩, .int .i64 0, .int .i64 0, .slice none 0 0] ++ rest) t) := h1.set 0 _
  clear h1 c0
  go_wp2_with fail
  refine (HA2.out _ _ H1.out).mono ?_
  rintro e w2 ⟨rfl, h2⟩
  have k0 := h2.k.cell 1 rfl
  have f0 := h2.k.frozen 1
  have H2 : Hid (At w0 (w2.setCell ⟨b, 1, none⟩ (.string ⟨mv.toArray⟩)) b p ms ([.int .i64 A, .string ⟨mv.toArray⟩, .int .i64 0, .int .i64 0, .slice none 0 0] ++ rest) t) := h2.set 1 _
  clear h2
  go_wp2_with fail
  refine (HA3.out _ _ H2.out).mono ?_
  rintro e w3 ⟨rfl, h3⟩
  have k0 := h3.k.cell 2 rfl
  have f0 := h3.k.frozen 2
  have H3 : Hid (At w0 (w3.setCell ⟨b, 2, none⟩ (.int .i64 C)) b p cs ([.int .i64 A, .string ⟨mv.toArray⟩, .int .i64 C, .int .i64 0, .slice none 0 0] ++ rest) t) := h3.set 2 _
  clear h3
  go_wp2_with fail
  refine (HA4.out _ _ H3.out).mono ?_
  rintro e w4 ⟨rfl, h4⟩
  have k0 := h4.k.cell 3 rfl
  have f0 := h4.k.frozen 3
  have H4 : Hid (At w0 (w4.setCell ⟨b, 3, none⟩ (.int .i64 D)) b p ds ([.int .i64 A, .string ⟨mv.toArray⟩, .int .i64 C, .int .i64 D, .slice none 0 0] ++ rest) t) := h4.set 3 _
  clear h4
  go_wp2_with fail
  refine (HA5.out _ _ H4.out).mono ?_
  rintro e w5 ⟨rfl, h5⟩
  have H5 := hid h5
  clear h5 k0 f0
  go_wp2_with fail
  go_loopw [30] (fun ix wr => ∃ (j : Nat) (a : Option Addr) (cap : Nat), ix = .int .i64 j ∧ j ≤ N ∧ Hid (At w0 wr b p (rdGs j sn).2 ([.int .i64 A, .string ⟨mv.toArray⟩, .int .i64 C, .int .i64 D, .slice a j cap] ++ rest) t) ∧ Hid (OwnI wr (p + 1) (.slice a j cap) (rdGs j sn).1) ∧ Hid ((rdGs j sn).1.length = j)) (fun ix _ => 200 - (intOf ix).toNat)
  case atStart => exact ⟨0, none, 0, rfl, by omega, H5, OwnI.nil _ _, rfl⟩
  case round =>
    obtain ⟨j, oa, cap, rfl, hj, HT, HO, HJ⟩ := hrel
    by_cases hlt : j < N
    · obtain ⟨x, hx⟩ : ∃ x, (rdGs j sn).2.go 0 rdWord = x := ⟨_, rfl⟩
      have HSN : Hid (rdGs (j + 1) sn = ((rdGs j sn).1 ++ [(x.1 : Int)], x.2)) := by show _ = _; rw [rdGs_snoc, hx]
      have HVB : Hid (∀ m, Calls Tryz.prog 39 #[.pointer (some ⟨p, 0, none⟩)] (wr.drewN m) fun e w' => e = .returned (.int .i64 (x.1 : Int)) ∧ At w0 w' b p x.2 ([.int .i64 A, .string ⟨mv.toArray⟩, .int .i64 C, .int .i64 D, .slice oa j cap] ++ rest) t ∧ Sole p wr w') := fun m => by
        have hB : Below wr.heap.size wr (wr.drewN m) := below_drew (Below.refl _ _) m
        have hr := ruint_any p (rdGs j sn).2.l (rdGs j sn).2.e (wr.drewN m) (HT.out.r.below hB)
        refine hr.mono fun e w' hp => ?_
        have e1 : ((⟨(rdGs j sn).2.l, (rdGs j sn).2.e⟩ : Rs).go 0 rdWord) = x := hx
        have hS : Sole p wr w' := (Sole.drewN p wr m).trans hp.2.2
        refine ⟨by rw [hp.1, e1], HT.out.call ?_ hS, hS⟩
        have := hp.2.1
        rwa [e1] at this
      generalize (x.1 : Int) = X at HVB HSN
      have v4 := HT.out.k.cell 4 rfl
      have HZ : Hid (p < wr.heap.size) := HT.out.r.lt
      clear hx
      go_wp2_with fail
      go_region_law (first
        | (refine step_calls rfl 39 #[.pointer (some ⟨p, 0, none⟩)] (by go_simp) _ (HVB.out _) ?_
           rintro e w7 ⟨rfl, hT7, hS7⟩
           refine ⟨_, rfl, ?_⟩
           obtain ⟨wb, hwb⟩ : ∃ y, w7.alloc (.cells #[.int .i64 X] 3) = y := ⟨_, rfl⟩
           have hBb : Below w7.heap.size w7 wb := by rw [← hwb]; exact below_new _ _
           have HO7 : Hid (OwnI wb (p + 1) (.slice oa j cap) (rdGs j sn).1) := HO.out.of_blocks (fun g hg => by
             have h1 := HO.out.lt g hg
             rw [hBb.block g (Nat.lt_of_lt_of_le h1.2 hS7.size)]
             exact hS7.block g h1.2 (by omega))
           have HQ : Hid (wb.heap[w7.heap.size]? = some (.cells #[.int .i64 X] 3)) := by
             show _ = _
             rw [← hwb]; exact Bk.new w7 [.int .i64 X] _
           have u4 := hT7.k.cell 4 rfl
           have HTb : Hid (At w0 wb b p x.2 ([.int .i64 A, .string ⟨mv.toArray⟩, .int .i64 C, .int .i64 D, .slice oa j cap] ++ rest) t) := ⟨hT7.r.below hBb, hT7.k.below hBb hT7.k.lt, hT7.low.trans (hBb.mono (by have := hT7.k.lt; omega)), hT7.lp⟩
           have x4 := HTb.out.k.cell 4 rfl
           have HPZ : Hid (p + 1 ≤ wb.heap.size) := HTb.out.r.lt
           clear hT7 hS7 hBb)
        | (refine step_appI _ rfl _ _ rfl (p + 1) (rdGs j sn).1 (.slice oa j cap) HO7.out rfl (by have h1 := HJ.out; omega) w7.heap.size X rfl HQ.out HPZ.out ?_
           intro gq cq w8 hO8 hg8 hat8
           have HO8 : Hid (OwnI w8 (p + 1) (.slice (some ⟨gq, 0, none⟩) (j + 1) cq) ((rdGs j sn).1 ++ [X])) := by have h1 := HJ.out; rw [h1] at hO8; exact hO8
           have HG8 := hid hg8
           have HOW : Hid (∀ q, (Value.slice oa j cap).ownBlock = some q → p + 1 ≤ q) := fun q e => (HO7.out.lt q e).1
           have HT8 : Hid (At w0 w8 b p x.2 ([.int .i64 A, .string ⟨mv.toArray⟩, .int .i64 C, .int .i64 D, .slice oa j cap] ++ rest) t) := by
             have h1 := HTb.out
             refine ⟨h1.r.of_block (hg8.block p h1.r.lt (fun e => by have := HOW.out p e.symm; omega)), (hg8.block b h1.k.lt (fun e => by have := HOW.out b e.symm; have := h1.lp; omega)).trans h1.k, h1.low.grown hg8 (by have := h1.k.lt; omega) (fun k e => by have := HOW.out k e; have := h1.lp; omega), h1.lp⟩
           have z4 := HT8.out.k.cell 4 rfl
           have y4 := HT8.out.k.frozen 4
           have HA8 : Hid (gq ≠ b) := by
             show gq ≠ b
             have h1 := (HO8.out.lt gq rfl).1
             have h2 := HT8.out.lp
             omega
           rw [HJ.out]
           clear hO8 hg8 hat8))
      all_goals (
        have HT9 : Hid (At w0 (w8.setCell ⟨b, 4, none⟩ (.slice (some ⟨gq, 0, none⟩) (j + 1) cq)) b p (rdGs (j + 1) sn).2 ([.int .i64 A, .string ⟨mv.toArray⟩, .int .i64 C, .int .i64 D, .slice (some ⟨gq, 0, none⟩) (j + 1) cq] ++ rest) t) := by
          show At _ _ _ _ _ _ _
          rw [HSN.out]; exact HT8.out.set 4 _
        have HO9 : Hid (OwnI (w8.setCell ⟨b, 4, none⟩ (.slice (some ⟨gq, 0, none⟩) (j + 1) cq)) (p + 1) (.slice (some ⟨gq, 0, none⟩) (j + 1) cq) (rdGs (j + 1) sn).1) := by
          show OwnI _ _ _ _
          rw [HSN.out]
          exact HO8.out.of_blocks (fun g hg => Below.heap_setCell _ _ _ g (fun e => HA8.out (by cases hg; exact e)))
        have HJ9 : Hid ((rdGs (j + 1) sn).1.length = j + 1) := by
          show _ = _
          rw [HSN.out]; simp [HJ.out]
        clear z4 y4
        go_wp2
        go_roundw
        case rel => exact ⟨j + 1, _, _, by go_num, by omega, HT9, HO9, HJ9⟩
        case measure => simp [intOf]; omega)
    · obtain rfl : j = N := by omega
      go_wp2
      first | go_end0 | refine bodyPost_ret (results_none rfl _ _ _) rfl ?_
      exact ⟨rfl, _, HT.out, HO.out⟩
end Go.Proofs.YtihcdahmfdijoaaGreatDoor
