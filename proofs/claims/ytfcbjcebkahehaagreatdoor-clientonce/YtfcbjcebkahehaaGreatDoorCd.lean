/- PrintSys. -/
import Derived.Test.YtfcbjcebkahehaaGreatDoorZaj
namespace Go.Proofs.YtfcbjcebkahehaaGreatDoor
open Go.RowKit
theorem GsAt.mono {w : World} {p p' : Nat} {oa : Option Addr} {gs : List Int} (h : GsAt w p oa gs) (hp : p ≤ p') : GsAt w p' oa gs := fun h0 => by
  obtain ⟨q, off, h1, h2, h3⟩ := h h0
  exact ⟨q, off, h1, by omega, h3⟩
theorem WrP.alloc {m : Int} {w wa : World} (hm : 0 ≤ m) (h : wa = w.alloc (.cells #[.int .i64 m, .slice none 0 0, .nilIface] 181)) : WrP wa w.heap.size m True [] ∧ Below w.heap.size w wa ∧ wa.heap.size = w.heap.size + 1 := by
  subst h
  exact ⟨WrP.new m w hm, below_new _ _, by simp⟩
theorem prV_some (f : Int) (o : Option (List UInt8)) : ∃ (x : Int) (s : ByteArray) (y : Int), prV f o = .tuple #[.agg #[.int .i64 x, .string s], .int .i64 y] := by
  cases o with
  | none => exact ⟨_, _, _, rfl⟩
  | some l => exact ⟨_, _, _, rfl⟩
set_option maxRecDepth 4000 in
theorem printSys_any (s : SysP) (oa : Option Addr) (cap : Nat) (w : World) (hT : ErrT w) (hg : GsAt w w.heap.size oa s.groups) (hcap : s.groups.length ≤ cap) (hlen : (s.groups.length : Int) ≤ 9223372036854775807) :
    Calls Tryz.prog 71 #[.agg #[.int .i64 s.stamp, .string ⟨s.machine.toArray⟩, .int .i64 s.user, .int .i64 s.group, .slice oa s.groups.length cap]] w fun e w' => e = .returned (prV 1 (printS s)) ∧ Below w.heap.size w w' := by
  obtain ⟨w3, hw3⟩ : ∃ x, ((w.alloc (.cells #[.int .i64 s.stamp, .string ⟨s.machine.toArray⟩, .int .i64 s.user, .int .i64 s.group, .slice oa s.groups.length cap] 26)).alloc (.cells #[.int .i64 0, .string ⟨#[]⟩] 44)).alloc (.cells #[.int .i64 s.stamp, .string ⟨s.machine.toArray⟩, .int .i64 s.user, .int .i64 s.group, .slice oa s.groups.length cap] 171) = x := ⟨_, rfl⟩
  have HW3 := hid hw3
  have hz3 : w3.heap.size = w.heap.size + 1 + 1 + 1 := by rw [← hw3]; simp
  have hB3 : Below w.heap.size w w3 := by
    rw [← hw3]
    exact ((below_new _ _).alloc (by simp) _).alloc (by simp; omega) _
  have hk3 : Bk w3 (w.heap.size + 1 + 1) [.int .i64 s.stamp, .string ⟨s.machine.toArray⟩, .int .i64 s.user, .int .i64 s.group, .slice oa s.groups.length cap] 171 := by
    rw [← hw3]; have := Bk.new ((w.alloc (.cells #[.int .i64 s.stamp, .string ⟨s.machine.toArray⟩, .int .i64 s.user, .int .i64 s.group, .slice oa s.groups.length cap] 26)).alloc (.cells #[.int .i64 0, .string ⟨#[]⟩] 44)) [.int .i64 s.stamp, .string ⟨s.machine.toArray⟩, .int .i64 s.user, .int .i64 s.group, .slice oa s.groups.length cap] 171
    simpa using this
  have hr3 : Bk w3 (w.heap.size + 1) [.int .i64 0, .string ⟨#[]⟩] 44 := by
    rw [← hw3]
    refine Bk.below ?_ (below_new _ _) (by simp)
    have := Bk.new (w.alloc (.cells #[.int .i64 s.stamp, .string ⟨s.machine.toArray⟩, .int .i64 s.user, .int .i64 s.group, .slice oa s.groups.length cap] 26)) [.int .i64 0, .string ⟨#[]⟩] 44
    simpa using this
  have HN : Hid (∀ w, Calls Tryz.prog 76 #[.int .i64 400] w fun e w' => e = .returned (.pointer (some ⟨w.heap.size, 0, none⟩)) ∧ w' = w.alloc (.cells #[.int .i64 400, .slice none 0 0, .nilIface] 181)) := fun w => w_new 400 w (by decide)
  have H3 : Hid (w3.heap.size = w.heap.size + 1 + 1 + 1 ∧ Below w.heap.size w w3 ∧ Bk w3 (w.heap.size + 1) [.int .i64 0, .string ⟨#[]⟩] 44 ∧ ErrT w3) := ⟨hz3, hB3, hr3, hT.below hB3⟩
  have HS : Hid (∀ w4, w4 = w3.alloc (.cells #[.int .i64 400, .slice none 0 0, .nilIface] 181) → Calls Tryz.prog 112 #[.pointer (some ⟨w.heap.size + 1 + 1, 0, none⟩), .pointer (some ⟨w3.heap.size, 0, none⟩)] w4 (WPost w3.heap.size 400 (True ∧ s.may) ([] ++ s.body) w4)) := fun w4 h4 => by
    obtain ⟨h1, h2, h3⟩ := WrP.alloc (by decide) h4
    have hk4 := hk3.below h2 (by omega)
    exact layWho_any (w.heap.size + 1 + 1) w3.heap.size s oa cap 400 True [] w4 h1 (by decide) (by decide) (by omega) (hk4.cell 0 rfl) (hk4.cell 1 rfl) (hk4.cell 2 rfl) (hk4.cell 3 rfl) (hk4.cell 4 rfl) (((hg.below hB3).mono (by omega)).below h2) hcap hlen (fun _ => by simp)
  have HP : Hid (∀ w5, WrP w5 w3.heap.size 400 (True ∧ s.may) ([] ++ s.body) → ErrT w5 → Calls Tryz.prog 113 #[.int .i64 1, .pointer (some ⟨w3.heap.size, 0, none⟩)] w5 fun e w' => e = .returned (prV 1 (printS s)) ∧ Below w5.heap.size w5 w') := fun w5 h5 hT5 => by
    have := authOf_any w3.heap.size 1 400 s.may s.body w5 (h5.iff (by simp) (fun _ => by simp)) hT5
    exact this
  obtain ⟨st, mc, us, gr, gs⟩ := s
  simp only at hg hcap hlen HS HP HW3 ⊢
  clear hz3 hB3 hk3 hr3 hg hT hw3
  go_enter Tryz.func71, Tryz.ntmps71
  go_wp2_with fail
  rw [HW3.out]
  refine (HN.out _).mono ?_
  rintro e w4 ⟨rfl, h4⟩
  have H4 := hid h4
  clear h4
  go_wp2_with fail
  refine (HS.out _ H4.out).mono ?_
  rintro e w5 ⟨rfl, h5, hB5⟩
  have H5 : Hid (WrP w5 w3.heap.size 400 (True ∧ SysP.may ⟨st, mc, us, gr, gs⟩) ([] ++ SysP.body ⟨st, mc, us, gr, gs⟩)) := h5
  have HB5 : Hid (Below w3.heap.size w3 w5) := (WrP.alloc (by decide) H4.out).2.1.trans hB5
  have HT5 : Hid (ErrT w5) := H3.out.2.2.2.below (HB5.out)
  clear h5 hB5
  go_wp2_with fail
  refine (HP.out _ H5.out HT5.out).mono ?_
  rintro e w6 ⟨rfl, hB6⟩
  have hk : Bk w6 (w.heap.size + 1) _ _ := (H3.out.2.2.1.below HB5.out (by have := H3.out.1; omega)).below hB6 (by have := H3.out.1; have := HB5.out.size; omega)
  obtain ⟨x, sb, y, hv⟩ := prV_some 1 (printS ⟨st, mc, us, gr, gs⟩)
  rw [hv]
  have c0 := hk.cell 0 rfl
  have c1 := hk.cell 1 rfl
  have f0 := hk.frozen 0
  have f1 := hk.frozen 1
  have q0 := ((hk.set 0 (.int .i64 x)).set 1 (.string sb)).cell 0 rfl
  have q1 := ((hk.set 0 (.int .i64 x)).set 1 (.string sb)).cell 1 rfl
  have HE : Hid (Below w.heap.size w ((w6.setCell ⟨w.heap.size + 1, 0, none⟩ (.int .i64 x)).setCell ⟨w.heap.size + 1, 1, none⟩ (.string sb))) :=
    (((H3.out.2.1.trans (HB5.out.mono (by have := H3.out.1; omega))).trans (hB6.mono (by have := H3.out.1; have := HB5.out.size; omega))).setCell (by simp) _).setCell (by simp) _
  have HV := hid hv
  clear hB6 hk hv
  go_wp2
  refine bodyPost_ret (v := .tuple #[.agg #[.int .i64 x, .string sb], .int .i64 y]) (by simp [results, Tryz.results71, go_sem, q0, q1]) rfl ⟨by rw [HV.out], HE.out⟩
end Go.Proofs.YtfcbjcebkahehaaGreatDoor
