/- PrintMark. -/
import Derived.Test.YteejeemljhmgcaaGreatDoorHg
namespace Go.Proofs.YteejeemljhmgcaaGreatDoor
open Go.RowKit
set_option maxRecDepth 4000 in
theorem markOf_any (m : MarkP) (oa : Option Addr) (cap : Nat) (w : World) :
    Calls Tryz.prog 136 #[.agg #[.int .i64 m.inst, .int .i64 m.seq, .int .i64 m.water, .int .i64 m.sys.stamp, .string ⟨m.sys.machine.toArray⟩, .int .i64 m.sys.user, .int .i64 m.sys.group, .slice oa m.sys.groups.length cap]] w fun e w' => e = .returned (.pointer (some ⟨w.heap.size + 1, 0, none⟩)) ∧ w'.heap.size = w.heap.size + 1 + 1 ∧ Below w.heap.size w w' ∧ Bk w' (w.heap.size + 1) [.int .i64 m.sys.stamp, .string ⟨m.sys.machine.toArray⟩, .int .i64 m.sys.user, .int .i64 m.sys.group, .slice oa m.sys.groups.length cap, .int .i64 m.inst, .int .i64 m.seq, .int .i64 m.water] 258 := by
  obtain ⟨i, q, u, st, mc, us, gr, gs⟩ := m
  simp only
  go_enter Tryz.func136, Tryz.ntmps136
  go_wp2
  go_ret
  refine ⟨rfl, by simp, (below_new _ _).alloc (by simp) _, ?_⟩
  have := Bk.new (w.alloc (.cells #[.int .i64 i, .int .i64 q, .int .i64 u, .int .i64 st, .string ⟨mc.toArray⟩, .int .i64 us, .int .i64 gr, .slice oa gs.length cap] 131)) [.int .i64 st, .string ⟨mc.toArray⟩, .int .i64 us, .int .i64 gr, .slice oa gs.length cap, .int .i64 i, .int .i64 q, .int .i64 u] 258
  simpa using this
set_option maxRecDepth 4000 in
theorem printMark_any (m : MarkP) (oa : Option Addr) (cap : Nat) (w : World) (hT : ErrT w) (hg : GsAt w w.heap.size oa m.sys.groups) (hcap : m.sys.groups.length ≤ cap) (hlen : (m.sys.groups.length : Int) ≤ 9223372036854775807) :
    Calls Tryz.prog 94 #[.agg #[.int .i64 m.inst, .int .i64 m.seq, .int .i64 m.water, .int .i64 m.sys.stamp, .string ⟨m.sys.machine.toArray⟩, .int .i64 m.sys.user, .int .i64 m.sys.group, .slice oa m.sys.groups.length cap]] w fun e w' => e = .returned (prV 1296126539 (printM m)) ∧ Below w.heap.size w w' := by
  obtain ⟨w2, hw2⟩ : ∃ x, (w.alloc (.cells #[.int .i64 m.inst, .int .i64 m.seq, .int .i64 m.water, .int .i64 m.sys.stamp, .string ⟨m.sys.machine.toArray⟩, .int .i64 m.sys.user, .int .i64 m.sys.group, .slice oa m.sys.groups.length cap] 131)).alloc (.cells #[.int .i64 0, .string ⟨#[]⟩] 44) = x := ⟨_, rfl⟩
  have HW2 := hid hw2
  have hz2 : w2.heap.size = w.heap.size + 1 + 1 := by rw [← hw2]; simp
  have hB2 : Below w.heap.size w w2 := by
    rw [← hw2]
    exact (below_new _ _).alloc (by simp) _
  have hr2 : Bk w2 (w.heap.size + 1) [.int .i64 0, .string ⟨#[]⟩] 44 := by
    rw [← hw2]
    have := Bk.new (w.alloc (.cells #[.int .i64 m.inst, .int .i64 m.seq, .int .i64 m.water, .int .i64 m.sys.stamp, .string ⟨m.sys.machine.toArray⟩, .int .i64 m.sys.user, .int .i64 m.sys.group, .slice oa m.sys.groups.length cap] 131)) [.int .i64 0, .string ⟨#[]⟩] 44
    simpa using this
  have HMO := hid (markOf_any m oa cap w2)
  have HN : Hid (∀ w, Calls Tryz.prog 76 #[.int .i64 400] w fun e w' => e = .returned (.pointer (some ⟨w.heap.size, 0, none⟩)) ∧ w' = w.alloc (.cells #[.int .i64 400, .slice none 0 0, .nilIface] 181)) := fun w => w_new 400 w (by decide)
  have H2 : Hid (w2.heap.size = w.heap.size + 1 + 1 ∧ Below w.heap.size w w2 ∧ Bk w2 (w.heap.size + 1) [.int .i64 0, .string ⟨#[]⟩] 44 ∧ ErrT w2) := ⟨hz2, hB2, hr2, hT.below hB2⟩
  have HS : Hid (∀ w3 w4, w3.heap.size = w2.heap.size + 1 + 1 → Below w2.heap.size w2 w3 → Bk w3 (w2.heap.size + 1) [.int .i64 m.sys.stamp, .string ⟨m.sys.machine.toArray⟩, .int .i64 m.sys.user, .int .i64 m.sys.group, .slice oa m.sys.groups.length cap, .int .i64 m.inst, .int .i64 m.seq, .int .i64 m.water] 258 → w4 = w3.alloc (.cells #[.int .i64 400, .slice none 0 0, .nilIface] 181) → Calls Tryz.prog 137 #[.pointer (some ⟨w2.heap.size + 1, 0, none⟩), .pointer (some ⟨w3.heap.size, 0, none⟩)] w4 (WPost w3.heap.size 400 (True ∧ m.may) ([] ++ m.body) w4)) := fun w3 w4 hz3 hB3 hk3 h4 => by
    obtain ⟨h1, h2, h3⟩ := WrP.alloc (by decide) h4
    have hk4 := hk3.below h2 (by omega)
    exact mlay_any (w2.heap.size + 1) w3.heap.size m oa cap 400 True [] w4 h1 (by decide) (by decide) (by omega) (hk4.cell 0 rfl) (hk4.cell 1 rfl) (hk4.cell 2 rfl) (hk4.cell 3 rfl) (hk4.cell 4 rfl) (hk4.cell 5 rfl) (hk4.cell 6 rfl) (hk4.cell 7 rfl) ((((hg.below (hB2.mono (Nat.le_refl _))).below (hB3.mono (by omega))).mono (by omega)).below h2) hcap hlen (fun _ => by simp)
  have HP : Hid (∀ p w5, WrP w5 p 400 (True ∧ m.may) ([] ++ m.body) → ErrT w5 → Calls Tryz.prog 113 #[.int .i64 1296126539, .pointer (some ⟨p, 0, none⟩)] w5 fun e w' => e = .returned (prV 1296126539 (printM m)) ∧ Below w5.heap.size w5 w') := fun p w5 h5 hT5 => by
    have := authOf_any p 1296126539 400 m.may m.body w5 (h5.iff (by simp) (fun _ => by simp)) hT5
    exact this
  clear hz2 hB2 hr2 hg hT hw2
  obtain ⟨i, q, u, st, mc, us, gr, gs⟩ := m
  simp only at hcap hlen HS HP HW2 HMO ⊢
  go_enter Tryz.func94, Tryz.ntmps94
  go_wp2_with fail
  rw [HW2.out]
  refine HMO.out.mono ?_
  rintro e w3 ⟨rfl, hz3, hB3, hk3⟩
  have H3 := hid (And.intro hz3 (And.intro hB3 hk3))
  clear hz3 hB3 hk3
  go_wp2_with fail
  refine (HN.out _).mono ?_
  rintro e w4 ⟨rfl, h4⟩
  have H4 := hid h4
  clear h4
  go_wp2_with fail
  refine (HS.out _ _ H3.out.1 H3.out.2.1 H3.out.2.2 H4.out).mono ?_
  rintro e w5 ⟨rfl, h5, hB5⟩
  have H5 := hid h5
  have HB5 : Hid (Below w3.heap.size w3 w5) := (WrP.alloc (by decide) H4.out).2.1.trans hB5
  have HB6 : Hid (Below w2.heap.size w2 w5) := H3.out.2.1.trans (HB5.out.mono (by have := H3.out.1; omega))
  have HT5 : Hid (ErrT w5) := H2.out.2.2.2.below HB6.out
  clear h5 hB5
  go_wp2_with fail
  refine (HP.out _ _ H5.out HT5.out).mono ?_
  rintro e w6 ⟨rfl, hB6⟩
  have hk : Bk w6 (w.heap.size + 1) _ _ := (H2.out.2.2.1.below HB6.out (by have := H2.out.1; omega)).below hB6 (by have := H2.out.1; have := HB6.out.size; omega)
  obtain ⟨x, sb, y, hv⟩ := prV_some 1296126539 (printM ⟨i, q, u, st, mc, us, gr, gs⟩)
  rw [hv]
  have c0 := hk.cell 0 rfl
  have c1 := hk.cell 1 rfl
  have f0 := hk.frozen 0
  have f1 := hk.frozen 1
  have q0 := ((hk.set 0 (.int .i64 x)).set 1 (.string sb)).cell 0 rfl
  have q1 := ((hk.set 0 (.int .i64 x)).set 1 (.string sb)).cell 1 rfl
  have HE : Hid (Below w.heap.size w ((w6.setCell ⟨w.heap.size + 1, 0, none⟩ (.int .i64 x)).setCell ⟨w.heap.size + 1, 1, none⟩ (.string sb))) :=
    (((H2.out.2.1.trans (HB6.out.mono (by have := H2.out.1; omega))).trans (hB6.mono (by have := H2.out.1; have := HB6.out.size; omega))).setCell (by simp) _).setCell (by simp) _
  have HV := hid hv
  clear hB6 hk hv
  go_wp2
  refine bodyPost_ret (v := .tuple #[.agg #[.int .i64 x, .string sb], .int .i64 y]) (by simp [results, Tryz.results94, go_sem, q0, q1]) rfl ⟨by rw [HV.out], HE.out⟩
end Go.Proofs.YteejeemljhmgcaaGreatDoor
