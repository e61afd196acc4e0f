/- The program reads who somebody says to be: the walk. ParseSys. -/
import Derived.Test.YtfcbjcebkahehaaGreatDoorZam
import Derived.Deep.RegionLaw
namespace Go.Proofs.YtfcbjcebkahehaaGreatDoor
open Go.RowKit
/-- where a reading is: the Reader, the block that is filled, what lies below it -/
structure At (w0 w : World) (b p : Nat) (st : Rs) (cs : List Value) (t : TypeId) : Prop where
  r : RR w p st.l st.e
  k : Bk w b cs t
  low : Below b w0 w
  lp : b < p
theorem At.call {w0 w w' : World} {b p : Nat} {st st' : Rs} {cs : List Value} {t : TypeId} (h : At w0 w b p st cs t) (hr : RR w' p st'.l st'.e) (hS : Sole p w w') : At w0 w' b p st' cs t :=
  ⟨hr, h.k.sole hS (by have := h.lp; omega), h.low.trans (hS.belowB (by have := h.lp; omega) (by have := h.k.lt; omega)), h.lp⟩
theorem At.set {w0 w : World} {b p : Nat} {st : Rs} {cs : List Value} {t : TypeId} (h : At w0 w b p st cs t) (i : Nat) (v : Value) : At w0 (w.setCell ⟨b, i, none⟩ v) b p st (cs.set i v) t :=
  ⟨h.r.set_ne (by have := h.lp; omega) i v, h.k.set i v, h.low.setCell (Nat.le_refl _) v, h.lp⟩
/-- one reading of a word, behind which it is laid into the block -/
theorem At.word {w0 w : World} {b p : Nat} {st : Rs} {cs : List Value} {t : TypeId} (h : At w0 w b p st cs t) :
    Calls Tryz.prog 117 #[.pointer (some ⟨p, 0, none⟩)] w fun e w' => e = .returned (.int .i64 ((st.go 0 rdWord).1 : Int)) ∧ At w0 w' b p (st.go 0 rdWord).2 cs t := by
  obtain ⟨l, E⟩ := st
  exact (ruint_any p l E w h.r).mono fun e w' hp => ⟨hp.1, h.call hp.2.1 hp.2.2⟩
set_option maxRecDepth 4000 in
set_option maxHeartbeats 4000000 in
theorem readWho_any (b p : Nat) (rest : List Value) (t : TypeId) (st : Rs) (w0 w : World) (h : At w0 w b p st ([.int .i64 0, .string ⟨#[]⟩, .int .i64 0, .int .i64 0, .slice none 0 0] ++ rest) t) (hl : st.l.length ≤ 281474976710656) :
    Calls Tryz.prog 175 #[.pointer (some ⟨b, 0, none⟩), .pointer (some ⟨p, 0, none⟩)] w fun e w' => e = .returned (.tuple #[]) ∧ ∃ sl, At w0 w' b p (rdSys st).2 ([.int .i64 (rdSys st).1.stamp, .string ⟨(rdSys st).1.machine.toArray⟩, .int .i64 (rdSys st).1.user, .int .i64 (rdSys st).1.group, sl] ++ rest) t ∧ OwnI w' (p + 1) sl (rdSys st).1.groups := by
  obtain ⟨a, ha⟩ : ∃ a, st.go 0 rdWord = a := ⟨_, rfl⟩
  obtain ⟨m, hm⟩ : ∃ m, a.2.go [] (rdOpaque 255) = m := ⟨_, rfl⟩
  obtain ⟨c, hc⟩ : ∃ c, m.2.go 0 rdWord = c := ⟨_, rfl⟩
  obtain ⟨d, hd⟩ : ∃ d, c.2.go 0 rdWord = d := ⟨_, rfl⟩
  obtain ⟨n, hn⟩ : ∃ n, d.2.go 0 (rdCount 16) = n := ⟨_, rfl⟩
  have hS : rdSys st = (⟨a.1, m.1, c.1, d.1, (rdGs n.1 n.2).1⟩, (rdGs n.1 n.2).2) := by
    unfold rdSys rdSysR
    simp only [ha, hm, hc, hd, hn]
  rw [hS]
  have hn16 : (n.1 : Int) ≤ 16 := by
    rw [← hn]
    unfold Rs.go
    split
    · simp
    · split
      · simp
      · rename_i h0 h1
        exact (one_count 16 _ (Decidable.not_not.1 h1)).2.2.2.2
  have H0 := hid h
  have HA1 : Hid (∀ w1 cs, At w0 w1 b p st cs t → Calls Tryz.prog 117 #[.pointer (some ⟨p, 0, none⟩)] w1 fun e w' => e = .returned (.int .i64 (a.1 : Int)) ∧ At w0 w' b p a.2 cs t) := fun w1 cs h1 => by rw [← ha]; exact h1.word
  have HA2 : Hid (∀ w1 cs, At w0 w1 b p a.2 cs t → Calls Tryz.prog 123 #[.pointer (some ⟨p, 0, none⟩), .int .i64 255] w1 fun e w' => e = .returned (.string ⟨m.1.toArray⟩) ∧ At w0 w' b p m.2 cs t) := fun w1 cs h1 => by
    have hl2 : a.2.l.length ≤ 281474976710656 := by rw [← ha]; exact Nat.le_trans (go_len _ _ _) hl
    rw [← hm]
    exact (ropaque_any p 255 a.2.l a.2.e w1 h1.r hl2).mono fun e w' hp => ⟨hp.1, h1.call hp.2.1 hp.2.2⟩
  have HA3 : Hid (∀ w1 cs, At w0 w1 b p m.2 cs t → Calls Tryz.prog 117 #[.pointer (some ⟨p, 0, none⟩)] w1 fun e w' => e = .returned (.int .i64 (c.1 : Int)) ∧ At w0 w' b p c.2 cs t) := fun w1 cs h1 => by rw [← hc]; exact h1.word
  have HA4 : Hid (∀ w1 cs, At w0 w1 b p c.2 cs t → Calls Tryz.prog 117 #[.pointer (some ⟨p, 0, none⟩)] w1 fun e w' => e = .returned (.int .i64 (d.1 : Int)) ∧ At w0 w' b p d.2 cs t) := fun w1 cs h1 => by rw [← hd]; exact h1.word
  have HA5 : Hid (∀ w1 cs, At w0 w1 b p d.2 cs t → Calls Tryz.prog 121 #[.pointer (some ⟨p, 0, none⟩), .int .i64 16] w1 fun e w' => e = .returned (.int .i64 (n.1 : Int)) ∧ At w0 w' b p n.2 cs t) := fun w1 cs h1 => by
    rw [← hn]
    exact (rcount_any p 16 d.2.l d.2.e w1 h1.r).mono fun e w' hp => ⟨hp.1, h1.call hp.2.1 hp.2.2⟩
  obtain ⟨N, sn⟩ := n
  obtain ⟨av, as_⟩ := a
  obtain ⟨mv, ms⟩ := m
  obtain ⟨cv, cs⟩ := c
  obtain ⟨dv, ds⟩ := d
  simp only at HA1 HA2 HA3 HA4 HA5 hn16 ⊢
  clear hS ha hm hc hd hn h hl
  generalize (av : Int) = A at HA1 ⊢
  generalize (cv : Int) = C at HA3 ⊢
  generalize (dv : Int) = D at HA4 ⊢
  have c0 := H0.out.k.cell 0 rfl
  go_enter Tryz.func175, Tryz.ntmps175
  go_wp2_with fail
  refine (HA1.out _ _ H0.out).mono ?_
  rintro e w1 ⟨rfl, h1⟩
  have k0 := h1.k.cell 0 rfl
  have f0 := h1.k.frozen 0
  have H1 : Hid (At w0 (w1.setCell ⟨b, 0, none⟩ (.int .i64 A)) b p as_ ([.int .i64 A, .string ⟨#[]⟩, .int .i64 0, .int .i64 0, .slice none 0 0] ++ rest) t) := h1.set 0 _
  clear h1 c0
  go_wp2_with fail
  refine (HA2.out _ _ H1.out).mono ?_
  rintro e w2 ⟨rfl, h2⟩
  have k0 := h2.k.cell 1 rfl
  have f0 := h2.k.frozen 1
  have H2 : Hid (At w0 (w2.setCell ⟨b, 1, none⟩ (.string ⟨mv.toArray⟩)) b p ms ([.int .i64 A, .string ⟨mv.toArray⟩, .int .i64 0, .int .i64 0, .slice none 0 0] ++ rest) t) := h2.set 1 _
  clear h2
  go_wp2_with fail
  refine (HA3.out _ _ H2.out).mono ?_
  rintro e w3 ⟨rfl, h3⟩
  have k0 := h3.k.cell 2 rfl
  have f0 := h3.k.frozen 2
  have H3 : Hid (At w0 (w3.setCell ⟨b, 2, none⟩ (.int .i64 C)) b p cs ([.int .i64 A, .string ⟨mv.toArray⟩, .int .i64 C, .int .i64 0, .slice none 0 0] ++ rest) t) := h3.set 2 _
  clear h3
  go_wp2_with fail
  refine (HA4.out _ _ H3.out).mono ?_
  rintro e w4 ⟨rfl, h4⟩
  have k0 := h4.k.cell 3 rfl
  have f0 := h4.k.frozen 3
  have H4 : Hid (At w0 (w4.setCell ⟨b, 3, none⟩ (.int .i64 D)) b p ds ([.int .i64 A, .string ⟨mv.toArray⟩, .int .i64 C, .int .i64 D, .slice none 0 0] ++ rest) t) := h4.set 3 _
  clear h4
  go_wp2_with fail
  refine (HA5.out _ _ H4.out).mono ?_
  rintro e w5 ⟨rfl, h5⟩
  have H5 := hid h5
  clear h5 k0 f0
  go_wp2_with fail
  go_loopw [30] (fun ix wr => ∃ (j : Nat) (a : Option Addr) (cap : Nat), ix = .int .i64 j ∧ j ≤ N ∧ Hid (At w0 wr b p (rdGs j sn).2 ([.int .i64 A, .string ⟨mv.toArray⟩, .int .i64 C, .int .i64 D, .slice a j cap] ++ rest) t) ∧ Hid (OwnI wr (p + 1) (.slice a j cap) (rdGs j sn).1) ∧ Hid ((rdGs j sn).1.length = j)) (fun ix _ => 200 - (intOf ix).toNat)
  case atStart => exact ⟨0, none, 0, rfl, by omega, H5, OwnI.nil _ _, rfl⟩
  case round =>
    obtain ⟨j, oa, cap, rfl, hj, HT, HO, HJ⟩ := hrel
    by_cases hlt : j < N
    · obtain ⟨x, hx⟩ : ∃ x, (rdGs j sn).2.go 0 rdWord = x := ⟨_, rfl⟩
      have HSN : Hid (rdGs (j + 1) sn = ((rdGs j sn).1 ++ [(x.1 : Int)], x.2)) := by show _ = _; rw [rdGs_snoc, hx]
      have HVB : Hid (∀ m, Calls Tryz.prog 117 #[.pointer (some ⟨p, 0, none⟩)] (wr.drewN m) fun e w' => e = .returned (.int .i64 (x.1 : Int)) ∧ At w0 w' b p x.2 ([.int .i64 A, .string ⟨mv.toArray⟩, .int .i64 C, .int .i64 D, .slice oa j cap] ++ rest) t ∧ Sole p wr w') := fun m => by
        have hB : Below wr.heap.size wr (wr.drewN m) := below_drew (Below.refl _ _) m
        have hr := ruint_any p (rdGs j sn).2.l (rdGs j sn).2.e (wr.drewN m) (HT.out.r.below hB)
        refine hr.mono fun e w' hp => ?_
        have e1 : ((⟨(rdGs j sn).2.l, (rdGs j sn).2.e⟩ : Rs).go 0 rdWord) = x := hx
        have hS : Sole p wr w' := (Sole.drewN p wr m).trans hp.2.2
        refine ⟨by rw [hp.1, e1], HT.out.call ?_ hS, hS⟩
        have := hp.2.1
        rwa [e1] at this
      generalize (x.1 : Int) = X at HVB HSN
      have v4 := HT.out.k.cell 4 rfl
      have HZ : Hid (p < wr.heap.size) := HT.out.r.lt
      clear hx
      go_wp2_with fail
      go_region_law (first
        | (refine step_calls rfl 117 #[.pointer (some ⟨p, 0, none⟩)] (by go_simp) _ (HVB.out _) ?_
           rintro e w7 ⟨rfl, hT7, hS7⟩
           refine ⟨_, rfl, ?_⟩
           obtain ⟨wb, hwb⟩ : ∃ y, w7.alloc (.cells #[.int .i64 X] 3) = y := ⟨_, rfl⟩
           have hBb : Below w7.heap.size w7 wb := by rw [← hwb]; exact below_new _ _
           have HO7 : Hid (OwnI wb (p + 1) (.slice oa j cap) (rdGs j sn).1) := HO.out.of_blocks (fun g hg => by
             have h1 := HO.out.lt g hg
             rw [hBb.block g (Nat.lt_of_lt_of_le h1.2 hS7.size)]
             exact hS7.block g h1.2 (by omega))
           have HQ : Hid (wb.heap[w7.heap.size]? = some (.cells #[.int .i64 X] 3)) := by
             show _ = _
             rw [← hwb]; exact Bk.new w7 [.int .i64 X] _
           have u4 := hT7.k.cell 4 rfl
           have HTb : Hid (At w0 wb b p x.2 ([.int .i64 A, .string ⟨mv.toArray⟩, .int .i64 C, .int .i64 D, .slice oa j cap] ++ rest) t) := ⟨hT7.r.below hBb, hT7.k.below hBb hT7.k.lt, hT7.low.trans (hBb.mono (by have := hT7.k.lt; omega)), hT7.lp⟩
           have x4 := HTb.out.k.cell 4 rfl
           have HPZ : Hid (p + 1 ≤ wb.heap.size) := HTb.out.r.lt
           clear hT7 hS7 hBb)
        | (refine step_appI _ rfl _ _ rfl (p + 1) (rdGs j sn).1 (.slice oa j cap) HO7.out rfl (by have h1 := HJ.out; omega) w7.heap.size X rfl HQ.out HPZ.out ?_
           intro gq cq w8 hO8 hg8 hat8
           have HO8 : Hid (OwnI w8 (p + 1) (.slice (some ⟨gq, 0, none⟩) (j + 1) cq) ((rdGs j sn).1 ++ [X])) := by have h1 := HJ.out; rw [h1] at hO8; exact hO8
           have HG8 := hid hg8
           have HOW : Hid (∀ q, (Value.slice oa j cap).ownBlock = some q → p + 1 ≤ q) := fun q e => (HO7.out.lt q e).1
           have HT8 : Hid (At w0 w8 b p x.2 ([.int .i64 A, .string ⟨mv.toArray⟩, .int .i64 C, .int .i64 D, .slice oa j cap] ++ rest) t) := by
             have h1 := HTb.out
             refine ⟨h1.r.of_block (hg8.block p h1.r.lt (fun e => by have := HOW.out p e.symm; omega)), (hg8.block b h1.k.lt (fun e => by have := HOW.out b e.symm; have := h1.lp; omega)).trans h1.k, h1.low.grown hg8 (by have := h1.k.lt; omega) (fun k e => by have := HOW.out k e; have := h1.lp; omega), h1.lp⟩
           have z4 := HT8.out.k.cell 4 rfl
           have y4 := HT8.out.k.frozen 4
           have HA8 : Hid (gq ≠ b) := by
             show gq ≠ b
             have h1 := (HO8.out.lt gq rfl).1
             have h2 := HT8.out.lp
             omega
           rw [HJ.out]
           clear hO8 hg8 hat8))
      all_goals (
        have HT9 : Hid (At w0 (w8.setCell ⟨b, 4, none⟩ (.slice (some ⟨gq, 0, none⟩) (j + 1) cq)) b p (rdGs (j + 1) sn).2 ([.int .i64 A, .string ⟨mv.toArray⟩, .int .i64 C, .int .i64 D, .slice (some ⟨gq, 0, none⟩) (j + 1) cq] ++ rest) t) := by
          show At _ _ _ _ _ _ _
          rw [HSN.out]; exact HT8.out.set 4 _
        have HO9 : Hid (OwnI (w8.setCell ⟨b, 4, none⟩ (.slice (some ⟨gq, 0, none⟩) (j + 1) cq)) (p + 1) (.slice (some ⟨gq, 0, none⟩) (j + 1) cq) (rdGs (j + 1) sn).1) := by
          show OwnI _ _ _ _
          rw [HSN.out]
          exact HO8.out.of_blocks (fun g hg => Below.heap_setCell _ _ _ g (fun e => HA8.out (by cases hg; exact e)))
        have HJ9 : Hid ((rdGs (j + 1) sn).1.length = j + 1) := by
          show _ = _
          rw [HSN.out]; simp [HJ.out]
        clear z4 y4
        go_wp2
        go_roundw
        case rel => exact ⟨j + 1, _, _, by go_num, by omega, HT9, HO9, HJ9⟩
        case measure => simp [intOf]; omega)
    · obtain rfl : j = N := by omega
      go_wp2
      first | go_end0 | refine bodyPost_ret (results_none rfl _ _ _) rfl ?_
      exact ⟨rfl, _, HT.out, HO.out⟩
end Go.Proofs.YtfcbjcebkahehaaGreatDoor
namespace Go.Proofs.YtfcbjcebkahehaaGreatDoor
open Go.RowKit
/-- what ParseSys tells -/
def psP (f : Int) (b : List UInt8) : SysP × Int := if f ≠ 1 then (nulS, 112) else match readS b with | none => (nulS, 111) | some s => (s, 0)
def SysPost (r : SysP × Int) (w : World) (e : Ending) (w' : World) : Prop :=
  ∃ a cap, e = .returned (.tuple #[.agg #[.int .i64 r.1.stamp, .string ⟨r.1.machine.toArray⟩, .int .i64 r.1.user, .int .i64 r.1.group, .slice a r.1.groups.length cap], .int .i64 r.2]) ∧ OwnI w' w.heap.size (.slice a r.1.groups.length cap) r.1.groups ∧ Below w.heap.size w w'
theorem OwnI.mono {w : World} {b b' : Nat} {sl : Value} {gs : List Int} (h : OwnI w b sl gs) (hb : b' ≤ b) : OwnI w b' sl gs := ⟨h.1, h.2.imp id fun ⟨g, cap, cur, e1, h1, r⟩ => ⟨g, cap, cur, e1, Nat.le_trans hb h1, r⟩⟩
theorem readS_done (b : List UInt8) : readS b = if rdDone (rdSys ⟨b, 0⟩).2.l (rdSys ⟨b, 0⟩).2.e = 0 then some (rdSys ⟨b, 0⟩).1 else none := by
  unfold readS rdDone
  by_cases he : (rdSys ⟨b, 0⟩).2.e = 0
  · by_cases hl : (rdSys ⟨b, 0⟩).2.l = []
    · simp [he, hl]
    · simp [he, hl]
  · simp [he]
/-- five cells of a result set -/
theorem Bk.set5 {w : World} {b : Nat} {x0 x1 x2 x3 x4 : Value} {t : TypeId} (h : Bk w b [x0, x1, x2, x3, x4] t) (v0 v1 v2 v3 v4 : Value) :
    Bk (((((w.setCell ⟨b, 0, none⟩ v0).setCell ⟨b, 1, none⟩ v1).setCell ⟨b, 2, none⟩ v2).setCell ⟨b, 3, none⟩ v3).setCell ⟨b, 4, none⟩ v4) b [v0, v1, v2, v3, v4] t :=
  ((((h.set 0 v0).set 1 v1).set 2 v2).set 3 v3).set 4 v4
theorem set5_ne (w : World) (b k : Nat) (v0 v1 v2 v3 v4 : Value) (h : k ≠ b) : (((((w.setCell ⟨b, 0, none⟩ v0).setCell ⟨b, 1, none⟩ v1).setCell ⟨b, 2, none⟩ v2).setCell ⟨b, 3, none⟩ v3).setCell ⟨b, 4, none⟩ v4).heap[k]? = w.heap[k]? := by
  rw [Below.heap_setCell _ _ _ k h, Below.heap_setCell _ _ _ k h, Below.heap_setCell _ _ _ k h, Below.heap_setCell _ _ _ k h, Below.heap_setCell _ _ _ k h]
theorem below_set5 {w0 w : World} {b B : Nat} (h : Below B w0 w) (hb : B ≤ b) (v0 v1 v2 v3 v4 : Value) : Below B w0 (((((w.setCell ⟨b, 0, none⟩ v0).setCell ⟨b, 1, none⟩ v1).setCell ⟨b, 2, none⟩ v2).setCell ⟨b, 3, none⟩ v3).setCell ⟨b, 4, none⟩ v4) :=
  ((((h.setCell hb v0).setCell hb v1).setCell hb v2).setCell hb v3).setCell hb v4
set_option maxRecDepth 4000 in
theorem parseSys_flavor (f : Int) (b : List UInt8) (w : World) (hf : f ≠ 1) :
    Calls Tryz.prog 164 #[.agg #[.int .i64 f, .string ⟨b.toArray⟩]] w (SysPost (nulS, 112) w) := by
  have hf1 : (f != 1) = true := bne_iff_ne.2 hf
  have hf2 : ¬ f = 1 := hf
  clear hf
  go_enter Tryz.func164, Tryz.ntmps164
  go_wp2
  have hk := Bk.new (w.alloc (.cells #[.int .i64 f, .string ⟨b.toArray⟩] 44)) [.int .i64 0, .string ⟨#[]⟩, .int .i64 0, .int .i64 0, .slice none 0 0] 26
  have hz : (w.alloc (.cells #[.int .i64 f, .string ⟨b.toArray⟩] 44)).heap.size = w.heap.size + 1 := by simp
  rw [hz] at hk
  have q0 := hk.cell 0 rfl
  have q1 := hk.cell 1 rfl
  have q2 := hk.cell 2 rfl
  have q3 := hk.cell 3 rfl
  have q4 := hk.cell 4 rfl
  refine bodyPost_ret (v := .tuple #[.agg #[.int .i64 0, .string ⟨#[]⟩, .int .i64 0, .int .i64 0, .slice none 0 0], .int .i64 112]) (by simp [results, Tryz.results164, go_sem, q0, q1, q2, q3, q4]) rfl ⟨none, 0, rfl, OwnI.nil _ _, (below_new _ _).alloc (by simp) _⟩
/-- the block to be filled, and a Reader -/
theorem At.start (b : List UInt8) (cs : List Value) (t : TypeId) (w w4 : World) (h4 : w4 = (w.alloc (.cells cs.toArray t)).alloc (.cells #[.string ⟨b.toArray⟩, .nilIface] 225)) : At w w4 w.heap.size (w.heap.size + 1) ⟨b, 0⟩ cs t ∧ w4.heap.size = w.heap.size + 1 + 1 := by
  subst h4
  have hz : (w.alloc (.cells cs.toArray t)).heap.size = w.heap.size + 1 := by simp
  refine ⟨⟨?_, (Bk.new w cs t).below (below_new _ _) (by omega), (below_new _ _).alloc (by omega) _, by omega⟩, by simp⟩
  have := RR.new b (w.alloc (.cells cs.toArray t))
  rwa [hz] at this
/-- an argument in a block of its own, and a result's -/
theorem two_start (cs ds : List Value) (t u : TypeId) (w w2 : World) (h : w2 = (w.alloc (.cells cs.toArray t)).alloc (.cells ds.toArray u)) : Bk w2 (w.heap.size + 1) ds u ∧ Below w.heap.size w w2 ∧ w2.heap.size = w.heap.size + 1 + 1 := by
  subst h
  have hz : (w.alloc (.cells cs.toArray t)).heap.size = w.heap.size + 1 := by simp
  refine ⟨?_, (below_new _ _).alloc (by simp) _, by simp⟩
  have := Bk.new (w.alloc (.cells cs.toArray t)) ds u
  rwa [hz] at this
set_option maxRecDepth 4000 in
theorem parseSys_one (b : List UInt8) (w : World) (hT : ErrT w) (hl : b.length ≤ 281474976710656) :
    Calls Tryz.prog 164 #[.agg #[.int .i64 1, .string ⟨b.toArray⟩]] w (SysPost (psP 1 b) w) := by
  obtain ⟨w2, hw2⟩ : ∃ x, x = (w.alloc (.cells #[.int .i64 1, .string ⟨b.toArray⟩] 44)).alloc (.cells #[.int .i64 0, .string ⟨#[]⟩, .int .i64 0, .int .i64 0, .slice none 0 0] 26) := ⟨_, rfl⟩
  have HW2 := hid hw2
  have H2 := hid (two_start [.int .i64 1, .string ⟨b.toArray⟩] [.int .i64 0, .string ⟨#[]⟩, .int .i64 0, .int .i64 0, .slice none 0 0] _ _ w w2 hw2)
  have HT2 := hid (hT.below H2.out.2.1)
  have HN := hid (fun w => rnew_rd b w)
  have HL := hid hl
  obtain ⟨d, hd⟩ : ∃ d, rdDone (rdSys ⟨b, 0⟩).2.l (rdSys ⟨b, 0⟩).2.e = d := ⟨_, rfl⟩
  have HD := hid hd
  obtain ⟨R, hR⟩ : ∃ R, psP 1 b = R := ⟨_, rfl⟩
  have HR : Hid (R = if d = 0 then ((rdSys ⟨b, 0⟩).1, 0) else (nulS, 111)) := by
    show R = _
    rw [← hR]
    unfold psP
    rw [if_neg (by simp), readS_done, hd]
    by_cases h0 : d = 0
    · rw [if_pos h0, if_pos h0]
    · rw [if_neg h0, if_neg h0]
  rw [hR]
  clear hT hl hw2 hd hR
  go_enter Tryz.func164, Tryz.ntmps164
  go_wp2_with fail
  refine (HN.out _).mono ?_
  rintro e w4 ⟨rfl, h4⟩
  rw [← HW2.out] at h4
  have H4 := hid (At.start b _ _ w2 w4 h4)
  have HS := hid (readWho_any w2.heap.size (w2.heap.size + 1) [] _ ⟨b, 0⟩ w2 w4 H4.out.1 HL.out)
  rw [H2.out.2.2] at HS
  clear h4
  go_wp2_with fail
  refine HS.out.mono ?_
  rintro e w5 ⟨rfl, sl, h5, ho5⟩
  obtain ⟨oa, cap, hsl⟩ := ho5.form
  subst hsl
  have H5 := hid (And.intro h5 ho5)
  have HDN := hid (rdone_rd _ _ _ w5 h5.r (HT2.out.below (by rw [H2.out.2.2]; exact h5.low)))
  rw [HD.out] at HDN
  clear h5 ho5 HS
  go_wp2_with fail
  refine HDN.out.mono ?_
  rintro e w6 ⟨rfl, hB6⟩
  have h56 := H5.out.1
  have hz5 := h56.k.lt
  have hr := h56.r.lt
  have HK : Hid (Bk w6 (w.heap.size + 1) [.int .i64 0, .string ⟨#[]⟩, .int .i64 0, .int .i64 0, .slice none 0 0] 26) := (H2.out.1.below h56.low (by have := H2.out.2.2; omega)).below hB6 (by omega)
  have HC : Hid (Bk w6 (w.heap.size + 1 + 1) ([.int .i64 (rdSys ⟨b, 0⟩).1.stamp, .string ⟨(rdSys ⟨b, 0⟩).1.machine.toArray⟩, .int .i64 (rdSys ⟨b, 0⟩).1.user, .int .i64 (rdSys ⟨b, 0⟩).1.group, .slice oa (rdSys ⟨b, 0⟩).1.groups.length cap] ++ []) 171) := h56.k.below hB6 hz5
  have HB : Hid (Below w.heap.size w w6) := (H2.out.2.1.trans (h56.low.mono (by omega))).trans (hB6.mono (by omega))
  have HO : Hid (OwnI w6 (w.heap.size + 1 + 1) (.slice oa (rdSys ⟨b, 0⟩).1.groups.length cap) (rdSys ⟨b, 0⟩).1.groups) := (H5.out.2.of_blocks (fun g hg => hB6.block g (H5.out.2.lt g hg).2)).mono (by omega)
  have k0 := HK.out.cell 0 rfl
  have k1 := HK.out.cell 1 rfl
  have k2 := HK.out.cell 2 rfl
  have k3 := HK.out.cell 3 rfl
  have k4 := HK.out.cell 4 rfl
  have f0 := HK.out.frozen 0
  have f1 := HK.out.frozen 1
  have f2 := HK.out.frozen 2
  have f3 := HK.out.frozen 3
  have f4 := HK.out.frozen 4
  clear h56 hz5 hr hB6 HDN
  by_cases h0 : d = 0
  · have hR := HR.out
    rw [if_pos h0] at hR
    subst hR
    clear HR
    have c0 := HC.out.cell 0 rfl
    have c1 := HC.out.cell 1 rfl
    have c2 := HC.out.cell 2 rfl
    have c3 := HC.out.cell 3 rfl
    have c4 := HC.out.cell 4 rfl
    generalize (rdSys ⟨b, 0⟩).1 = s at *
    obtain ⟨st, mc, us, gr, gs⟩ := s
    simp only at *
    have HZ := HK.out.set5 (.int .i64 st) (.string ⟨mc.toArray⟩) (.int .i64 us) (.int .i64 gr) (.slice oa gs.length cap)
    have q0 := HZ.cell 0 rfl
    have q1 := HZ.cell 1 rfl
    have q2 := HZ.cell 2 rfl
    have q3 := HZ.cell 3 rfl
    have q4 := HZ.cell 4 rfl
    have HE : Hid (OwnI (((((w6.setCell ⟨w.heap.size + 1, 0, none⟩ (.int .i64 st)).setCell ⟨w.heap.size + 1, 1, none⟩ (.string ⟨mc.toArray⟩)).setCell ⟨w.heap.size + 1, 2, none⟩ (.int .i64 us)).setCell ⟨w.heap.size + 1, 3, none⟩ (.int .i64 gr)).setCell ⟨w.heap.size + 1, 4, none⟩ (.slice oa gs.length cap)) w.heap.size (.slice oa gs.length cap) gs) :=
      (HO.out.of_blocks (fun g hg => set5_ne _ _ g _ _ _ _ _ (by have := (HO.out.lt g hg).1; omega))).mono (by omega)
    have HB7 := hid (below_set5 (b := w.heap.size + 1) HB.out (by omega) (.int .i64 st) (.string ⟨mc.toArray⟩) (.int .i64 us) (.int .i64 gr) (.slice oa gs.length cap))
    clear HZ
    subst h0
    go_wp2
    refine bodyPost_ret (v := .tuple #[.agg #[.int .i64 st, .string ⟨mc.toArray⟩, .int .i64 us, .int .i64 gr, .slice oa gs.length cap], .int .i64 0]) (by simp [results, Tryz.results164, go_sem, q0, q1, q2, q3, q4]) rfl ⟨_, _, rfl, HE.out, HB7.out⟩
  · have hR := HR.out
    rw [if_neg h0] at hR
    subst hR
    clear HR
    have h1 : (d != 0) = true := bne_iff_ne.2 h0
    have HZ := HK.out.set5 (.int .i64 0) (.string ⟨#[]⟩) (.int .i64 0) (.int .i64 0) (.slice none 0 0)
    have q0 := HZ.cell 0 rfl
    have q1 := HZ.cell 1 rfl
    have q2 := HZ.cell 2 rfl
    have q3 := HZ.cell 3 rfl
    have q4 := HZ.cell 4 rfl
    have HB7 := hid (below_set5 (b := w.heap.size + 1) HB.out (by omega) (.int .i64 0) (.string ⟨#[]⟩) (.int .i64 0) (.int .i64 0) (.slice none 0 0))
    clear HZ
    go_wp2
    refine bodyPost_ret (v := .tuple #[.agg #[.int .i64 0, .string ⟨#[]⟩, .int .i64 0, .int .i64 0, .slice none 0 0], .int .i64 111]) (by simp [results, Tryz.results164, go_sem, q0, q1, q2, q3, q4]) rfl ⟨none, 0, rfl, OwnI.nil _ _, HB7.out⟩
theorem parseSys_any (f : Int) (b : List UInt8) (w : World) (hT : ErrT w) (hl : b.length ≤ 281474976710656) :
    Calls Tryz.prog 164 #[.agg #[.int .i64 f, .string ⟨b.toArray⟩]] w (SysPost (psP f b) w) := by
  by_cases hf : f = 1
  · subst hf; exact parseSys_one b w hT hl
  · have : psP f b = (nulS, 112) := by unfold psP; rw [if_pos hf]
    rw [this]; exact parseSys_flavor f b w hf
end Go.Proofs.YtfcbjcebkahehaaGreatDoor
