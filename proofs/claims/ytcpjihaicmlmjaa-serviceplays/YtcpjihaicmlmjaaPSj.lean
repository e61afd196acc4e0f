/- Services: lists cloned and clipped. -/
import Derived.Test.YtcpjihaicmlmjaaPSc
namespace Go.Proofs.Ytcpjihaicmlmjaa
open Go.RowKit
theorem info3 : ∃ i : TypeInfo, Try.prog.info? 3 = some i ∧ i.zero = some (.int .i64 0) ∧ i.size = 1 ∧ i.bytes = 8 :=
  ⟨(Try.prog.info? 3).getD default, by kernel_rfl, by kernel_rfl, by kernel_rfl, by kernel_rfl⟩
theorem bls32 (w : World) : (Instr.buildSlice 32 0 #[]).run Try.prog w = .ok (.slice (some ⟨w.heap.size, 0, none⟩) 0 0) (w.alloc (.cells #[] 3)) := by kernel_rfl
def gvs (gs : List Int) : List Value := gs.map fun g => .int .i64 g
/-- numbers in new memory -/
def GsN (w : World) (lo : Nat) (oa : Option Addr) (gs : List Int) : Prop := 0 < gs.length → ∃ q off, oa = some ⟨q, off, none⟩ ∧ lo ≤ q ∧ q < w.heap.size ∧ ∀ i, i < gs.length → w.cell? ⟨q, off + i, none⟩ = some (.int .i64 (gs.getD i 0))
theorem GsN.lo {w : World} {lo lo' : Nat} {oa : Option Addr} {gs : List Int} (h : GsN w lo oa gs) (hl : lo' ≤ lo) : GsN w lo' oa gs := fun h0 => by
  obtain ⟨q, off, e1, e2, e3, e4⟩ := h h0
  exact ⟨q, off, e1, Nat.le_trans hl e2, e3, e4⟩
theorem gapp_any (gs : List Int) (q off cap : Nat) (w : World) (S : Nat) (hq : ∀ i, i < gs.length → w.cell? ⟨q, off + i, none⟩ = some (.int .i64 (gs.getD i 0))) (hl : gs.length ≤ 17592186044416) :
    ∃ oa c w', (∀ ty, (Builtin.append_ #[32, 32] ty #[.slice (some ⟨S, 0, none⟩) 0 0, .slice (some ⟨q, off, none⟩) gs.length cap]).run Try.prog w = .ok (.slice oa gs.length c) w') ∧ gs.length ≤ c ∧ GsN w' w.heap.size oa gs ∧ Below w.heap.size w w' := by
  obtain ⟨i, hi, hz, hs, hby⟩ := info3
  rcases Nat.eq_zero_or_pos gs.length with h0 | h0
  · refine ⟨some ⟨S, 0, none⟩, 0, w, fun ty => ?_, by omega, fun h => by omega, Below.refl _ _⟩
    rw [h0]
    simp [Builtin.append_, run_underlying Try.underlying32, sizeOf, typeInfo, hi, Builtin.lenOf, Builtin.firstCells, loadCells, loadCellsFrom, storeCells]
  · have hge := grownCap_ge w gs.length 0 3
    have hgl : (gvs gs).length = gs.length := by unfold gvs; simp
    have hcells : ∀ j v, (gvs gs)[j]? = some v → w.cell? ((⟨q, off, none⟩ : Addr).add j) = some v := fun j v hv => by
      have hj : j < gs.length := by have := (List.getElem?_eq_some_iff.1 hv).1; omega
      rw [Addr.add_lit, hq j hj]
      unfold gvs at hv
      rw [List.getElem?_map, List.getElem?_eq_getElem hj] at hv
      simp at hv
      rw [← hv]
      simp [List.getD, List.getElem?_eq_getElem hj]
    have key := fun ty => run_append_grow (P := Try.prog) w 32 ty 3 i _ Try.underlying32 hi hz ⟨S, 0, none⟩ 0 0 [] (by simp) (fun j v hv => by simp at hv) ⟨q, off, none⟩ gs.length cap (gvs gs) (by rw [hgl, hs, Nat.mul_one]) hcells (by omega) (by omega) (by rw [hby]; exact growslice_fits (by omega) (by omega))
    simp only [Nat.zero_add, Array.empty_append] at key
    refine ⟨_, _, _, key, hge, fun _ => ⟨w.heap.size, 0, rfl, Nat.le_refl _, by simp, fun j hj => ?_⟩, ⟨rfl, rfl, rfl, by simp, fun k hk => Below.heap_alloc w.drew _ k hk⟩⟩
    rw [Nat.zero_add]
    have hnew := heap_alloc_new w.drew (.cells ((gvs gs).toArray ++ Builtin.zeroCells (Value.int IntKind.i64 0).cells (grownCap w gs.length 0 3 - gs.length)) 3)
    unfold World.cell?
    rw [show (w.drew.alloc (.cells ((gvs gs).toArray ++ Builtin.zeroCells (Value.int IntKind.i64 0).cells (grownCap w gs.length 0 3 - gs.length)) 3)).heap[w.heap.size]? = _ from hnew]
    show ((gvs gs).toArray ++ _)[j]? = _
    rw [Array.getElem?_append_left (by simpa [gvs] using hj)]
    unfold gvs
    simp [List.getD, List.getElem?_eq_getElem hj]
set_option maxRecDepth 8000 in
theorem gclone_any (gs : List Int) (oa : Option Addr) (cap : Nat) (w : World) (hg : GsAt w w.heap.size oa gs) (hn : ∀ a, oa = some a → a.spot = none) (hl : gs.length ≤ 17592186044416) :
    Calls Try.prog 29 #[.slice oa gs.length cap] w fun e w' => ∃ oa' cap', e = .returned (.slice oa' gs.length cap') ∧ GsN w' w.heap.size oa' gs ∧ Below w.heap.size w w' := by
  cases oa with
  | none =>
    have h0 : gs.length = 0 := by
      rcases Nat.eq_zero_or_pos gs.length with h | h
      · exact h
      · obtain ⟨q, off, e, _⟩ := hg h; cases e
    rw [h0]
    have HE : Hid (GsN w w.heap.size none gs ∧ Below w.heap.size w w) := ⟨fun h => by omega, Below.refl _ _⟩
    have he : ∀ w : World, (binOp .eql 32 (.slice none 0 cap) (.slice none 0 0)).run Try.prog w = .ok (.bool true) w := fun _ => by kernel_rfl
    clear hg hn hl h0
    go_enter Try.func29, Try.ntmps29
    go_wp2
    go_ret
    exact ⟨none, 0, rfl, HE.out⟩
  | some a =>
    obtain ⟨q, off, sp⟩ := a
    obtain rfl : sp = none := hn _ rfl
    obtain ⟨w0, hw0⟩ : ∃ w0, w.alloc (.cells #[] 3) = w0 := ⟨_, rfl⟩
    obtain ⟨S, hS⟩ : ∃ S, w.heap.size = S := ⟨_, rfl⟩
    have B0 : Below w.heap.size w w0 := by rw [← hw0]; exact (Below.refl _ _).alloc (Nat.le_refl _) _
    obtain ⟨oa', c', w1, hr, hc', hg', hb'⟩ := gapp_any gs q off cap w0 S (fun i hi => by
      obtain ⟨q', off', e1, e2, e3⟩ := (hg.below B0) (by omega)
      cases e1
      exact e3 i hi) hl
    have HR := hid hr
    have HE : Hid (GsN w1 w.heap.size oa' gs ∧ Below w.heap.size w w1) := ⟨hg'.lo B0.size, B0.trans (hb'.mono B0.size)⟩
    have he : ∀ w : World, (binOp .eql 32 (.slice (some ⟨q, off, none⟩) gs.length cap) (.slice none 0 0)).run Try.prog w = .ok (.bool false) w := fun _ => by kernel_rfl
    have hb := bls32
    generalize gs.length = n at *
    clear hg hn hl hr hc' hg' hb' B0
    go_enter Try.func29, Try.ntmps29
    go_wp2_with (at_builtin; refine Hid.out ?_)
    refine (show Hid _ from ?_)
    refine wpList_app rfl _ _ 32 rfl _ _ _ _ rfl rfl (HR.out _) ?_
    go_wp2
    go_ret
    exact ⟨oa', c', rfl, HE.out⟩
theorem info48 : ∃ i : TypeInfo, Try.prog.info? 48 = some i ∧ i.zero = some (.agg #[.int .i64 0, .int .i64 0, .slice none 0 0, .nilFunc]) ∧ i.size = 4 ∧ i.bytes = 48 :=
  ⟨(Try.prog.info? 48).getD default, by kernel_rfl, by kernel_rfl, by kernel_rfl, by kernel_rfl⟩
theorem info55 : ∃ i : TypeInfo, Try.prog.info? 55 = some i ∧ i.zero = some (.agg #[.int .i64 0, .int .i64 0, .slice none 0 0]) ∧ i.size = 3 ∧ i.bytes = 40 :=
  ⟨(Try.prog.info? 55).getD default, by kernel_rfl, by kernel_rfl, by kernel_rfl, by kernel_rfl⟩
theorem clip_run (w : World) (oa : Option Addr) (n c : Nat) (h : n ≤ c) :
    (Instr.slice 50 (.slice oa n c) none (some (.int .i64 n)) (some (.int .i64 n))).run Try.prog w = .ok (.slice oa n n) w := by
  obtain ⟨i, hi, _, _, _⟩ := info48
  have a2 : (0 : Int) ≤ n ∧ (n : Int) ≤ c := by omega
  cases oa with
  | none => simp [Instr.slice, Instr.sliceBounds, Instr.sliceBound, run_underlying Try.underlying50, sizeOf, typeInfo, hi, asIntOf, h]
  | some a =>
    simp [Instr.slice, Instr.sliceBounds, Instr.sliceBound, run_underlying Try.underlying50, sizeOf, typeInfo, hi, asIntOf, h]
    intro _
    cases a
    rfl
theorem clip_any (w : World) (oa : Option Addr) (n c : Nat) (h : n ≤ c) :
    Calls Try.prog 30 #[.slice oa n c] w fun e w' => e = .returned (.slice oa n n) ∧ w' = w := by
  have hr := fun w => clip_run w oa n c h
  clear h
  go_enter Try.func30, Try.ntmps30
  go_wp2
  go_ret
  exact ⟨rfl, rfl⟩
end Go.Proofs.Ytcpjihaicmlmjaa
