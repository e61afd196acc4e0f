/- Services: may one be? -/
import Derived.Test.YtcpjihaicmlmjaaPSg
namespace Go.Proofs.Ytcpjihaicmlmjaa
open Go.RowKit
def mayP (s : Sv) (nn : Bool) : Bool := isW s.prog && (isW s.vers && (riseP 0 s.procs && nn))
set_option maxRecDepth 8000 in
theorem mayBe_any (s : Sv) (h : Value) (nn : Bool) (hh : h = .nilFunc ∧ nn = false ∨ h = hd ∧ nn = true) (w : World) (hg : GsAt w w.heap.size s.oa s.procs) (hl : s.procs.length ≤ 100000000000000) :
    Calls Try.prog 28 #[.agg (svA s h)] w fun e w' => e = .returned (.bool (mayP s nn)) ∧ Below w.heap.size w w' := by
  obtain ⟨w0, hw0⟩ : ∃ w0, w.alloc (.cells (svA s h) 48) = w0 := ⟨_, rfl⟩
  obtain ⟨S0, hS0⟩ : ∃ S0, w.heap.size = S0 := ⟨_, rfl⟩
  have B0 : Below w.heap.size w w0 := by rw [← hw0]; exact (Below.refl _ _).alloc (Nat.le_refl _) _
  have k0 : w0.heap[S0]? = some (.cells (svA s h) 48) := by rw [← hw0, ← hS0]; exact (MapKept.heap_alloc w _).1
  have c0 : w0.cell? ⟨S0, 0, none⟩ = some (.int .i64 s.prog) := by unfold World.cell?; rw [k0]; rfl
  have c1 : w0.cell? ⟨S0, 1, none⟩ = some (.int .i64 s.vers) := by unfold World.cell?; rw [k0]; rfl
  have c2 : w0.cell? ⟨S0, 2, none⟩ = some (.slice s.oa s.procs.length s.cap) := by unfold World.cell?; rw [k0]; rfl
  have hlt : S0 < w0.heap.size := (Array.getElem?_eq_some_iff.1 k0).1
  have HC3 : Hid (∀ w', Below w0.heap.size w0 w' → w'.cell? ⟨S0, 3, none⟩ = some h) := fun w' hb => by
    unfold World.cell?; rw [hb.block S0 hlt, k0]; rfl
  have H1 := hid (fun w => word_any s.prog w)
  have H2 := hid (fun w => word_any s.vers w)
  have H3 := hid (rise_any s.oa s.cap s.procs w0 ((hg.below B0).mono B0.size) hl)
  have HB : Hid (∀ w', Below w0.heap.size w0 w' → Below w.heap.size w w') := fun w' hb => B0.trans (hb.mono B0.size)
  have HB0 := hid B0
  have hq : ∀ w : World, (binOp .neq 46 h .nilFunc).run Try.prog w = .ok (.bool nn) w := fun w => by
    rcases hh with ⟨rfl, rfl⟩ | ⟨rfl, rfl⟩
    · kernel_rfl
    · kernel_rfl
  unfold mayP
  generalize riseP 0 s.procs = b3 at *
  generalize s.procs.length = n at *
  generalize isW s.prog = b1 at *
  generalize isW s.vers = b2 at *
  clear hg hl B0 k0 hlt
  go_enter Try.func28, Try.ntmps28
  go_wp2_with fail
  refine (H1.out _).mono ?_
  rintro _ v1 ⟨rfl, hv1⟩
  rw [hv1]
  clear hv1 v1
  cases b1
  · go_wp2
    go_ret
    exact ⟨rfl, HB0.out⟩
  · go_wp2_with fail
    refine (H2.out _).mono ?_
    rintro _ v1 ⟨rfl, hv1⟩
    rw [hv1]
    clear hv1 v1
    cases b2
    · go_wp2
      go_ret
      exact ⟨rfl, HB0.out⟩
    · go_wp2_with fail
      refine H3.out.mono ?_
      rintro _ v1 ⟨rfl, hv1⟩
      have HB1 := hid (HB.out _ hv1)
      have d3 := HC3.out _ hv1
      clear hv1 c0 c1 c2
      cases b3
      · go_wp2
        go_ret
        exact ⟨rfl, HB1.out⟩
      · rcases hh with ⟨rfl, rfl⟩ | ⟨rfl, rfl⟩
        all_goals (
          go_wp2
          go_ret
          exact ⟨rfl, HB1.out⟩)
end Go.Proofs.Ytcpjihaicmlmjaa
