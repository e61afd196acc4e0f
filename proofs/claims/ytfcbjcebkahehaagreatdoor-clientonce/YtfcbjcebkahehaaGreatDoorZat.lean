/- The client: numbers cloned; a meter made. The client: New. -/
import Derived.Test.YtfcbjcebkahehaaGreatDoorZas
namespace Go.Proofs.YtfcbjcebkahehaaGreatDoor.Cl
open Go.RowKit
theorem info3 : ∃ i : TypeInfo, Tryz.prog.info? 3 = some i ∧ i.zero = some (.int .i64 0) ∧ i.size = 1 ∧ i.bytes = 8 :=
  ⟨(Tryz.prog.info? 3).getD default, by kernel_rfl, by kernel_rfl, by kernel_rfl, by kernel_rfl⟩
theorem bls24 (w : World) : (Instr.buildSlice 24 0 #[]).run Tryz.prog w = .ok (.slice (some ⟨w.heap.size, 0, none⟩) 0 0) (w.alloc (.cells #[] 3)) := by kernel_rfl
def gvs (gs : List Int) : List Value := gs.map fun g => .int .i64 g
/-- numbers in new memory -/
def GsN (w : World) (lo : Nat) (oa : Option Addr) (gs : List Int) : Prop := 0 < gs.length → ∃ q off, oa = some ⟨q, off, none⟩ ∧ lo ≤ q ∧ q < w.heap.size ∧ ∀ i, i < gs.length → w.cell? ⟨q, off + i, none⟩ = some (.int .i64 (gs.getD i 0))
theorem GsN.at_ {w : World} {lo : Nat} {oa : Option Addr} {gs : List Int} (h : GsN w lo oa gs) : GsAt w w.heap.size oa gs := fun h0 => by
  obtain ⟨q, off, e1, e2, e3, e4⟩ := h h0
  exact ⟨q, off, e1, e3, e4⟩
theorem GsN.lo {w : World} {lo lo' : Nat} {oa : Option Addr} {gs : List Int} (h : GsN w lo oa gs) (hl : lo' ≤ lo) : GsN w lo' oa gs := fun h0 => by
  obtain ⟨q, off, e1, e2, e3, e4⟩ := h h0
  exact ⟨q, off, e1, Nat.le_trans hl e2, e3, e4⟩
theorem GsN.kept {w w' : World} {lo : Nat} {oa : Option Addr} {gs : List Int} (h : GsN w lo oa gs) (hs : w.heap.size ≤ w'.heap.size) (hb : ∀ q, lo ≤ q → q < w.heap.size → (∃ off, oa = some ⟨q, off, none⟩) → w'.heap[q]? = w.heap[q]?) : GsN w' lo oa gs := fun h0 => by
  obtain ⟨q, off, e1, e2, e3, e4⟩ := h h0
  exact ⟨q, off, e1, e2, Nat.lt_of_lt_of_le e3 hs, fun i hi => (World.cell?_of_block (a := ⟨q, off + i, none⟩) (hb q e2 e3 ⟨off, e1⟩)).trans (e4 i hi)⟩
theorem gapp_any (gs : List Int) (q off cap : Nat) (w : World) (S : Nat) (hq : ∀ i, i < gs.length → w.cell? ⟨q, off + i, none⟩ = some (.int .i64 (gs.getD i 0))) (hl : gs.length ≤ 1000000) :
    ∃ oa c w', (∀ ty, (Builtin.append_ #[24, 24] ty #[.slice (some ⟨S, 0, none⟩) 0 0, .slice (some ⟨q, off, none⟩) gs.length cap]).run Tryz.prog w = .ok (.slice oa gs.length c) w') ∧ gs.length ≤ c ∧ GsN w' w.heap.size oa gs ∧ Below w.heap.size w w' ∧ (oa = some ⟨S, 0, none⟩ ∨ (oa = some ⟨w.heap.size, 0, none⟩ ∧ w.heap.size < w'.heap.size)) := by
  obtain ⟨i, hi, hz, hs, hby⟩ := info3
  rcases Nat.eq_zero_or_pos gs.length with h0 | h0
  · refine ⟨some ⟨S, 0, none⟩, 0, w, fun ty => ?_, by omega, fun h => by omega, Below.refl _ _, .inl rfl⟩
    rw [h0]
    simp [Builtin.append_, run_underlying Tryz.underlying24, sizeOf, typeInfo, hi, Builtin.lenOf, Builtin.firstCells, loadCells, loadCellsFrom, storeCells]
  · have hge := grownCap_ge w gs.length 0 3
    have hcm : grownCap w gs.length 0 3 ≤ maxLen := grownCap_le_maxLen w _ _ _ (by unfold maxLen; omega)
    have hgl : (gvs gs).length = gs.length := by unfold gvs; simp
    have hcells : ∀ j v, (gvs gs)[j]? = some v → w.cell? ((⟨q, off, none⟩ : Addr).add j) = some v := fun j v hv => by
      have hj : j < gs.length := by have := (List.getElem?_eq_some_iff.1 hv).1; omega
      rw [Addr.add_lit, hq j hj]
      unfold gvs at hv
      rw [List.getElem?_map, List.getElem?_eq_getElem hj] at hv
      simp at hv
      rw [← hv]
      simp [List.getD, List.getElem?_eq_getElem hj]
    have key := fun ty => run_append_grow (P := Tryz.prog) w 24 ty 3 i _ Tryz.underlying24 hi hz ⟨S, 0, none⟩ 0 0 [] (by simp) (fun j v hv => by simp at hv) ⟨q, off, none⟩ gs.length cap (gvs gs) (by rw [hgl, hs, Nat.mul_one]) hcells (by omega) (by omega) (by rw [hby]; exact growslice_fits (by omega) (by omega))
    simp only [Nat.zero_add, Array.empty_append] at key
    refine ⟨_, _, _, key, hge, fun _ => ⟨w.heap.size, 0, rfl, Nat.le_refl _, by simp, fun j hj => ?_⟩, ⟨rfl, rfl, rfl, by simp, fun k hk => Below.heap_alloc w.drew _ k hk⟩, .inr ⟨rfl, by simp⟩⟩
    rw [Nat.zero_add]
    have hnew := heap_alloc_new w.drew (.cells ((gvs gs).toArray ++ Builtin.zeroCells (Value.int IntKind.i64 0).cells (grownCap w gs.length 0 3 - gs.length)) 3)
    unfold World.cell?
    rw [show (w.drew.alloc (.cells ((gvs gs).toArray ++ Builtin.zeroCells (Value.int IntKind.i64 0).cells (grownCap w gs.length 0 3 - gs.length)) 3)).heap[w.heap.size]? = _ from hnew]
    show ((gvs gs).toArray ++ _)[j]? = _
    rw [Array.getElem?_append_left (by simpa [gvs] using hj)]
    unfold gvs
    simp [List.getD, List.getElem?_eq_getElem hj]
set_option maxRecDepth 8000 in
theorem gclone_any (gs : List Int) (oa : Option Addr) (cap : Nat) (w : World) (hg : GsAt w w.heap.size oa gs) (hn : ∀ a, oa = some a → a.spot = none) (hl : gs.length ≤ 1000000) :
    Calls Tryz.prog 46 #[.slice oa gs.length cap] w fun e w' => ∃ oa' cap', e = .returned (.slice oa' gs.length cap') ∧ gs.length ≤ cap' ∧ GsN w' w.heap.size oa' gs ∧ Below w.heap.size w w' ∧ (∀ a, oa' = some a → a.spot = none ∧ w.heap.size ≤ a.block ∧ a.block < w'.heap.size) := by
  cases oa with
  | none =>
    have h0 : gs.length = 0 := by
      rcases Nat.eq_zero_or_pos gs.length with h | h
      · exact h
      · obtain ⟨q, off, e, _⟩ := hg h; cases e
    rw [h0]
    have HE : Hid (gs.length ≤ 0 ∧ GsN w w.heap.size none gs ∧ Below w.heap.size w w ∧ (∀ a : Addr, none = some a → a.spot = none ∧ w.heap.size ≤ a.block ∧ a.block < w.heap.size)) := ⟨by omega, fun h => by omega, Below.refl _ _, fun a h => by cases h⟩
    rw [h0] at HE
    have he : ∀ w : World, (binOp .eql 24 (.slice none 0 cap) (.slice none 0 0)).run Tryz.prog w = .ok (.bool true) w := fun _ => by kernel_rfl
    clear hg hn hl h0
    go_enter Tryz.func46, Tryz.ntmps46
    go_wp2
    go_ret
    exact ⟨none, 0, rfl, HE.out⟩
  | some a =>
    obtain ⟨q, off, sp⟩ := a
    obtain rfl : sp = none := hn _ rfl
    obtain ⟨w0, hw0⟩ : ∃ w0, w.alloc (.cells #[] 3) = w0 := ⟨_, rfl⟩
    obtain ⟨S, hS⟩ : ∃ S, w.heap.size = S := ⟨_, rfl⟩
    have B0 : Below w.heap.size w w0 := by rw [← hw0]; exact (Below.refl _ _).alloc (Nat.le_refl _) _
    obtain ⟨oa', c', w1, hr, hc', hg', hb', hsp0⟩ := gapp_any gs q off cap w0 S (fun i hi => by
      obtain ⟨q', off', e1, e2, e3⟩ := (hg.below B0) (by omega)
      cases e1
      exact e3 i hi) hl
    have hsp : ∀ a, oa' = some a → a.spot = none ∧ w.heap.size ≤ a.block ∧ a.block < w1.heap.size := fun a ha => by
      have hz := B0.size
      have hz1 := hb'.size
      have hz0 : w0.heap.size = S + 1 := by rw [← hw0, ← hS]; simp
      rcases hsp0 with e | ⟨e, e2⟩
      · rw [e] at ha; cases ha; exact ⟨rfl, Nat.le_of_eq hS, by show S < _; omega⟩
      · rw [e] at ha; cases ha; exact ⟨rfl, hz, e2⟩
    have HR := hid hr
    have HE : Hid (gs.length ≤ c' ∧ GsN w1 w.heap.size oa' gs ∧ Below w.heap.size w w1 ∧ (∀ a, oa' = some a → a.spot = none ∧ w.heap.size ≤ a.block ∧ a.block < w1.heap.size)) := ⟨hc', hg'.lo B0.size, B0.trans (hb'.mono B0.size), hsp⟩
    have he : ∀ w : World, (binOp .eql 24 (.slice (some ⟨q, off, none⟩) gs.length cap) (.slice none 0 0)).run Tryz.prog w = .ok (.bool false) w := fun _ => by kernel_rfl
    have hb := bls24
    generalize gs.length = n at *
    clear hg hn hl hr hc' hg' hb' B0 hsp0 hsp
    go_enter Tryz.func46, Tryz.ntmps46
    go_wp2_with (at_builtin; refine Hid.out ?_)
    refine (show Hid _ from ?_)
    refine wpList_app rfl _ _ 24 rfl _ _ _ _ rfl rfl (HR.out _) ?_
    go_wp2
    go_ret
    exact ⟨oa', c', rfl, HE.out⟩
theorem bld136 (w : World) : (Instr.build 136 #[]).run Tryz.prog w = .ok (.agg #[.bool false, .float .f32 0, .float .f32 0]) w := by kernel_rfl
end Go.Proofs.YtfcbjcebkahehaaGreatDoor.Cl
namespace Go.Proofs.YtfcbjcebkahehaaGreatDoor.Cl
open Go.RowKit
abbrev meB : Obj := .cells #[.bool false, .float .f32 0, .float .f32 0] 136
abbrev clB (c : Cf) (oa : Option Addr) (cap : Nat) (next now : Int) (vw vd : Value) (q : Nat) : Obj := .cells #[.int .i64 c.ad, .int .i64 c.inst, .int .i64 c.first, .int .i64 c.win, .int .i64 c.pb, .int .i64 c.pc, .int .i64 c.pt, .int .i64 c.sys.stamp, .string ⟨c.sys.machine.toArray⟩, .int .i64 c.sys.user, .int .i64 c.sys.group, .slice oa c.sys.groups.length cap, .int .i64 next, .int .i64 now, vw, vd, ptr q] 96
theorem meter_any (w : World) : Calls Tryz.prog 47 #[] w fun e w' => e = .returned (ptr w.heap.size) ∧ w' = w.alloc meB := by
  have hb := bld136
  obtain ⟨w0, hw0⟩ : ∃ w0, w.alloc meB = w0 := ⟨_, rfl⟩
  obtain ⟨S, hS⟩ : ∃ S, w.heap.size = S := ⟨_, rfl⟩
  rw [hw0, hS]
  go_enter Tryz.func47, Tryz.ntmps47
  go_wp2
  go_ret
  exact ⟨rfl, rfl⟩
theorem bld96b (c : Cf) (oa : Option Addr) (cap q : Nat) (w : World) : (Instr.build 96 #[(0, .agg (cfA c oa cap)), (1, .int .i64 c.first), (5, ptr q)]).run Tryz.prog w = .ok (.agg #[.int .i64 c.ad, .int .i64 c.inst, .int .i64 c.first, .int .i64 c.win, .int .i64 c.pb, .int .i64 c.pc, .int .i64 c.pt, .int .i64 c.sys.stamp, .string ⟨c.sys.machine.toArray⟩, .int .i64 c.sys.user, .int .i64 c.sys.group, .slice oa c.sys.groups.length cap, .int .i64 c.first, .int .i64 0, .slice none 0 0, .slice none 0 0, ptr q]) w := by kernel_rfl
end Go.Proofs.YtfcbjcebkahehaaGreatDoor.Cl
