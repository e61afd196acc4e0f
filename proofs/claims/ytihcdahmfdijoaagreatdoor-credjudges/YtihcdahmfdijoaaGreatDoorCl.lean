/- ParseSys. -/
import Derived.Test.YtihcdahmfdijoaaGreatDoorCj
namespace Go.Proofs.YtihcdahmfdijoaaGreatDoor
open Go.RowKit
/-- what ParseSys tells -/
def psP (f : Int) (b : List UInt8) : SysP × Int := if f ≠ 1 then (nulS, 112) else match readS b with | none => (nulS, 111) | some s => (s, 0)
def SysPost (r : SysP × Int) (w : World) (e : Ending) (w' : World) : Prop :=
  ∃ a cap, e = .returned (.tuple #[.agg #[.int .i64 r.1.stamp, .string ⟨r.1.machine.toArray⟩, .int .i64 r.1.user, .int .i64 r.1.group, .slice a r.1.groups.length cap], .int .i64 r.2]) ∧ OwnI w' w.heap.size (.slice a r.1.groups.length cap) r.1.groups ∧ Below w.heap.size w w'
theorem OwnI.mono {w : World} {b b' : Nat} {sl : Value} {gs : List Int} (h : OwnI w b sl gs) (hb : b' ≤ b) : OwnI w b' sl gs := ⟨h.1, h.2.imp id fun ⟨g, cap, cur, e1, h1, r⟩ => ⟨g, cap, cur, e1, Nat.le_trans hb h1, r⟩⟩
theorem readS_done (b : List UInt8) : readS b = if rdDone (rdSys ⟨b, 0⟩).2.l (rdSys ⟨b, 0⟩).2.e = 0 then some (rdSys ⟨b, 0⟩).1 else none := by
  unfold readS rdDone
  by_cases he : (rdSys ⟨b, 0⟩).2.e = 0
  · by_cases hl : (rdSys ⟨b, 0⟩).2.l = []
    · simp [he, hl]
    · simp [he, hl]
  · simp [he]
/-- five cells of a result set -/
theorem Bk.set5 {w : World} {b : Nat} {x0 x1 x2 x3 x4 : Value} {t : TypeId} (h : Bk w b [x0, x1, x2, x3, x4] t) (v0 v1 v2 v3 v4 : Value) :
    Bk (((((w.setCell ⟨b, 0, none⟩ v0).setCell ⟨b, 1, none⟩ v1).setCell ⟨b, 2, none⟩ v2).setCell ⟨b, 3, none⟩ v3).setCell ⟨b, 4, none⟩ v4) b [v0, v1, v2, v3, v4] t :=
  ((((h.set 0 v0).set 1 v1).set 2 v2).set 3 v3).set 4 v4
theorem set5_ne (w : World) (b k : Nat) (v0 v1 v2 v3 v4 : Value) (h : k ≠ b) : (((((w.setCell ⟨b, 0, none⟩ v0).setCell ⟨b, 1, none⟩ v1).setCell ⟨b, 2, none⟩ v2).setCell ⟨b, 3, none⟩ v3).setCell ⟨b, 4, none⟩ v4).heap[k]? = w.heap[k]? := by
  rw [Below.heap_setCell _ _ _ k h, Below.heap_setCell _ _ _ k h, Below.heap_setCell _ _ _ k h, Below.heap_setCell _ _ _ k h, Below.heap_setCell _ _ _ k h]
theorem below_set5 {w0 w : World} {b B : Nat} (h : Below B w0 w) (hb : B ≤ b) (v0 v1 v2 v3 v4 : Value) : Below B w0 (((((w.setCell ⟨b, 0, none⟩ v0).setCell ⟨b, 1, none⟩ v1).setCell ⟨b, 2, none⟩ v2).setCell ⟨b, 3, none⟩ v3).setCell ⟨b, 4, none⟩ v4) :=
  ((((h.setCell hb v0).setCell hb v1).setCell hb v2).setCell hb v3).setCell hb v4
set_option maxRecDepth 4000 in
theorem parseSys_flavor (f : Int) (b : List UInt8) (w : World) (hf : f ≠ 1) :
    Calls Tryz.prog 7 #[.agg #[.int .i64 f, .string ⟨b.toArray⟩]] w (SysPost (nulS, 112) w) := by
  have hf1 : (f != 1) = true := bne_iff_ne.2 hf
  have hf2 : ¬ f = 1 := hf
  clear hf
  go_enter Tryz.func7, Tryz.ntmps7
  go_wp2
  have hk := Bk.new (w.alloc (.cells #[.int .i64 f, .string ⟨b.toArray⟩] 23)) [.int .i64 0, .string ⟨#[]⟩, .int .i64 0, .int .i64 0, .slice none 0 0] 30
  have hz : (w.alloc (.cells #[.int .i64 f, .string ⟨b.toArray⟩] 23)).heap.size = w.heap.size + 1 := by simp
  rw [hz] at hk
  have q0 := hk.cell 0 rfl
  have q1 := hk.cell 1 rfl
  have q2 := hk.cell 2 rfl
  have q3 := hk.cell 3 rfl
  have q4 := hk.cell 4 rfl
  refine bodyPost_ret (v := .tuple #[.agg #[.int .i64 0, .string ⟨#[]⟩, .int .i64 0, .int .i64 0, .slice none 0 0], .int .i64 112]) (by simp [results, Tryz.results7, go_sem, q0, q1, q2, q3, q4]) rfl ⟨none, 0, rfl, OwnI.nil _ _, (below_new _ _).alloc (by simp) _⟩
/-- the block to be filled, and a Reader -/
theorem At.start (b : List UInt8) (cs : List Value) (t : TypeId) (w w4 : World) (h4 : w4 = (w.alloc (.cells cs.toArray t)).alloc (.cells #[.string ⟨b.toArray⟩, .nilIface] 81)) : At w w4 w.heap.size (w.heap.size + 1) ⟨b, 0⟩ cs t ∧ w4.heap.size = w.heap.size + 1 + 1 := by
  subst h4
  have hz : (w.alloc (.cells cs.toArray t)).heap.size = w.heap.size + 1 := by simp
  refine ⟨⟨?_, (Bk.new w cs t).below (below_new _ _) (by omega), (below_new _ _).alloc (by omega) _, by omega⟩, by simp⟩
  have := RR.new b (w.alloc (.cells cs.toArray t))
  rwa [hz] at this
/-- an argument in a block of its own, and a result's -/
theorem two_start (cs ds : List Value) (t u : TypeId) (w w2 : World) (h : w2 = (w.alloc (.cells cs.toArray t)).alloc (.cells ds.toArray u)) : Bk w2 (w.heap.size + 1) ds u ∧ Below w.heap.size w w2 ∧ w2.heap.size = w.heap.size + 1 + 1 := by
  subst h
  have hz : (w.alloc (.cells cs.toArray t)).heap.size = w.heap.size + 1 := by simp
  refine ⟨?_, (below_new _ _).alloc (by simp) _, by simp⟩
  have := Bk.new (w.alloc (.cells cs.toArray t)) ds u
  rwa [hz] at this
set_option maxRecDepth 4000 in
theorem parseSys_one (b : List UInt8) (w : World) (hT : ErrT w) (hl : b.length ≤ 281474976710656) :
    Calls Tryz.prog 7 #[.agg #[.int .i64 1, .string ⟨b.toArray⟩]] w (SysPost (psP 1 b) w) := by
  obtain ⟨w2, hw2⟩ : ∃ x, x = (w.alloc (.cells #[.int .i64 1, .string ⟨b.toArray⟩] 23)).alloc (.cells #[.int .i64 0, .string ⟨#[]⟩, .int .i64 0, .int .i64 0, .slice none 0 0] 30) := ⟨_, rfl⟩
  have HW2 := hid hw2
  have H2 := hid (two_start [.int .i64 1, .string ⟨b.toArray⟩] [.int .i64 0, .string ⟨#[]⟩, .int .i64 0, .int .i64 0, .slice none 0 0] _ _ w w2 hw2)
  have HT2 := hid (hT.below H2.out.2.1)
  have HN := hid (fun w => rnew_rd b w)
  have HL := hid hl
  obtain ⟨d, hd⟩ : ∃ d, rdDone (rdSys ⟨b, 0⟩).2.l (rdSys ⟨b, 0⟩).2.e = d := ⟨_, rfl⟩
  have HD := hid hd
  obtain ⟨R, hR⟩ : ∃ R, psP 1 b = R := ⟨_, rfl⟩
  have HR : Hid (R = if d = 0 then ((rdSys ⟨b, 0⟩).1, 0) else (nulS, 111)) := by
    show R = _
    rw [← hR]
    unfold psP
    rw [if_neg (by simp), readS_done, hd]
    by_cases h0 : d = 0
    · rw [if_pos h0, if_pos h0]
    · rw [if_neg h0, if_neg h0]
  rw [hR]
  clear hT hl hw2 hd hR
  go_enter Tryz.func7, Tryz.ntmps7
  go_wp2_with fail
  refine (HN.out _).mono ?_
  rintro e w4 ⟨rfl, h4⟩
  rw [← HW2.out] at h4
  have H4 := hid (At.start b _ _ w2 w4 h4)
  have HS := hid (readWho_any w2.heap.size (w2.heap.size + 1) [] _ ⟨b, 0⟩ w2 w4 H4.out.1 HL.out)
  rw [H2.out.2.2] at HS
  clear h4
  go_wp2_with fail
  refine HS.out.mono ?_
  rintro e w5 ⟨rfl, sl, h5, ho5⟩
  obtain ⟨oa, cap, hsl⟩ := ho5.form
  subst hsl
  have H5 := hid (And.intro h5 ho5)
  have HDN := hid (rdone_rd _ _ _ w5 h5.r (HT2.out.below (by rw [H2.out.2.2]; exact h5.low)))
  rw [HD.out] at HDN
  clear h5 ho5 HS
  go_wp2_with fail
  refine HDN.out.mono ?_
  rintro e w6 ⟨rfl, hB6⟩
  have h56 := H5.out.1
  have hz5 := h56.k.lt
  have hr := h56.r.lt
  have HK : Hid (Bk w6 (w.heap.size + 1) [.int .i64 0, .string ⟨#[]⟩, .int .i64 0, .int .i64 0, .slice none 0 0] 30) := (H2.out.1.below h56.low (by have := H2.out.2.2; omega)).below hB6 (by omega)
  have HC : Hid (Bk w6 (w.heap.size + 1 + 1) ([.int .i64 (rdSys ⟨b, 0⟩).1.stamp, .string ⟨(rdSys ⟨b, 0⟩).1.machine.toArray⟩, .int .i64 (rdSys ⟨b, 0⟩).1.user, .int .i64 (rdSys ⟨b, 0⟩).1.group, .slice oa (rdSys ⟨b, 0⟩).1.groups.length cap] ++ []) 54) := h56.k.below hB6 hz5
  have HB : Hid (Below w.heap.size w w6) := (H2.out.2.1.trans (h56.low.mono (by omega))).trans (hB6.mono (by omega))
  have HO : Hid (OwnI w6 (w.heap.size + 1 + 1) (.slice oa (rdSys ⟨b, 0⟩).1.groups.length cap) (rdSys ⟨b, 0⟩).1.groups) := (H5.out.2.of_blocks (fun g hg => hB6.block g (H5.out.2.lt g hg).2)).mono (by omega)
  have k0 := HK.out.cell 0 rfl
  have k1 := HK.out.cell 1 rfl
  have k2 := HK.out.cell 2 rfl
  have k3 := HK.out.cell 3 rfl
  have k4 := HK.out.cell 4 rfl
  have f0 := HK.out.frozen 0
  have f1 := HK.out.frozen 1
  have f2 := HK.out.frozen 2
  have f3 := HK.out.frozen 3
  have f4 := HK.out.frozen 4
  clear h56 hz5 hr hB6 HDN
  by_cases h0 : d = 0
  · have hR := HR.out
    rw [if_pos h0] at hR
    subst hR
    clear HR
    have c0 := HC.out.cell 0 rfl
    have c1 := HC.out.cell 1 rfl
    have c2 := HC.out.cell 2 rfl
    have c3 := HC.out.cell 3 rfl
    have c4 := HC.out.cell 4 rfl
    generalize (rdSys ⟨b, 0⟩).1 = s at *
    obtain ⟨st, mc, us, gr, gs⟩ := s
    simp only at *
    have HZ := HK.out.set5 (.int .i64 st) (.string ⟨mc.toArray⟩) (.int .i64 us) (.int .i64 gr) (.slice oa gs.length cap)
    have q0 := HZ.cell 0 rfl
    have q1 := HZ.cell 1 rfl
    have q2 := HZ.cell 2 rfl
    have q3 := HZ.cell 3 rfl
    have q4 := HZ.cell 4 rfl
    have HE : Hid (OwnI (((((w6.setCell ⟨w.heap.size + 1, 0, none⟩ (.int .i64 st)).setCell ⟨w.heap.size + 1, 1, none⟩ (.string ⟨mc.toArray⟩)).setCell ⟨w.heap.size + 1, 2, none⟩ (.int .i64 us)).setCell ⟨w.heap.size + 1, 3, none⟩ (.int .i64 gr)).setCell ⟨w.heap.size + 1, 4, none⟩ (.slice oa gs.length cap)) w.heap.size (.slice oa gs.length cap) gs) :=
      (HO.out.of_blocks (fun g hg => set5_ne _ _ g _ _ _ _ _ (by have := (HO.out.lt g hg).1; omega))).mono (by omega)
    have HB7 := hid (below_set5 (b := w.heap.size + 1) HB.out (by omega) (.int .i64 st) (.string ⟨mc.toArray⟩) (.int .i64 us) (.int .i64 gr) (.slice oa gs.length cap))
    clear HZ
    subst h0
    go_wp2
    refine bodyPost_ret (v := .tuple #[.agg #[.int .i64 st, .string ⟨mc.toArray⟩, .int .i64 us, .int .i64 gr, .slice oa gs.length cap], .int .i64 0]) (by simp [results, Tryz.results7, go_sem, q0, q1, q2, q3, q4]) rfl ⟨_, _, rfl, HE.out, HB7.out⟩
  · have hR := HR.out
    rw [if_neg h0] at hR
    subst hR
    clear HR
    have h1 : (d != 0) = true := bne_iff_ne.2 h0
    have HZ := HK.out.set5 (.int .i64 0) (.string ⟨#[]⟩) (.int .i64 0) (.int .i64 0) (.slice none 0 0)
    have q0 := HZ.cell 0 rfl
    have q1 := HZ.cell 1 rfl
    have q2 := HZ.cell 2 rfl
    have q3 := HZ.cell 3 rfl
    have q4 := HZ.cell 4 rfl
    have HB7 := hid (below_set5 (b := w.heap.size + 1) HB.out (by omega) (.int .i64 0) (.string ⟨#[]⟩) (.int .i64 0) (.int .i64 0) (.slice none 0 0))
    clear HZ
    go_wp2
    refine bodyPost_ret (v := .tuple #[.agg #[.int .i64 0, .string ⟨#[]⟩, .int .i64 0, .int .i64 0, .slice none 0 0], .int .i64 111]) (by simp [results, Tryz.results7, go_sem, q0, q1, q2, q3, q4]) rfl ⟨none, 0, rfl, OwnI.nil _ _, HB7.out⟩
theorem parseSys_any (f : Int) (b : List UInt8) (w : World) (hT : ErrT w) (hl : b.length ≤ 281474976710656) :
    Calls Tryz.prog 7 #[.agg #[.int .i64 f, .string ⟨b.toArray⟩]] w (SysPost (psP f b) w) := by
  by_cases hf : f = 1
  · subst hf; exact parseSys_one b w hT hl
  · have : psP f b = (nulS, 112) := by unfold psP; rw [if_pos hf]
    rw [this]; exact parseSys_flavor f b w hf
end Go.Proofs.YtihcdahmfdijoaaGreatDoor
