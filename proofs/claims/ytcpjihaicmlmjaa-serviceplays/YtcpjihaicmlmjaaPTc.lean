/- Services: the document's Offer. -/
import Derived.Test.YtcpjihaicmlmjaaPTa
namespace Go.Proofs.Ytcpjihaicmlmjaa
open Go.RowKit
/-- numbers are appended to nothing -/
theorem app_nil (gs : List Int) (oa : Option Addr) (cap : Nat) (w : World) (hg : GsAt w w.heap.size oa gs) (hl : gs.length ≤ 17592186044416) :
    ∃ ob c w', (∀ ty, (Builtin.append_ #[32, 32] ty #[.slice none 0 0, .slice oa gs.length cap]).run Try.prog w = .ok (.slice ob gs.length c) w') ∧ GsN w' w.heap.size ob gs ∧ Below w.heap.size w w' := by
  obtain ⟨i, hi, hz, hs, hby⟩ := info3
  rcases Nat.eq_zero_or_pos gs.length with h0 | h0
  · refine ⟨none, 0, w, fun ty => ?_, fun h => by omega, Below.refl _ _⟩
    rw [h0]
    cases oa <;> simp [Builtin.append_, run_underlying Try.underlying32, sizeOf, typeInfo, hi, Builtin.lenOf, Builtin.firstCells, loadCells, loadCellsFrom]
  · obtain ⟨q, off, rfl, hq0, hq⟩ := hg h0
    have hgl : (gvs gs).length = gs.length := by unfold gvs; simp
    have hcells : ∀ j v, (gvs gs)[j]? = some v → w.cell? ((⟨q, off, none⟩ : Addr).add j) = some v := fun j v hv => by
      have hj : j < gs.length := by have := (List.getElem?_eq_some_iff.1 hv).1; omega
      rw [Addr.add_lit, hq j hj]
      unfold gvs at hv
      rw [List.getElem?_map, List.getElem?_eq_getElem hj] at hv
      simp at hv
      rw [← hv]
      simp [List.getD, List.getElem?_eq_getElem hj]
    have key := fun ty => run_append_nil (P := Try.prog) w 32 ty 3 i _ Try.underlying32 hi hz ⟨q, off, none⟩ gs.length cap (gvs gs) (by rw [hgl, hs, Nat.mul_one]) hcells h0 (by omega) (by rw [hby]; omega)
    refine ⟨_, _, _, key, fun _ => ⟨w.heap.size, 0, rfl, Nat.le_refl _, by simp, fun j hj => ?_⟩, ⟨rfl, rfl, rfl, by simp, fun k hk => Below.heap_alloc w.drew _ k hk⟩⟩
    rw [Nat.zero_add]
    have hnew := heap_alloc_new w.drew (.cells ((gvs gs).toArray ++ Builtin.zeroCells (Value.int IntKind.i64 0).cells (grownCap w gs.length 0 3 - gs.length)) 3)
    unfold World.cell?
    rw [show (w.drew.alloc (.cells ((gvs gs).toArray ++ Builtin.zeroCells (Value.int IntKind.i64 0).cells (grownCap w gs.length 0 3 - gs.length)) 3)).heap[w.heap.size]? = _ from hnew]
    show ((gvs gs).toArray ++ _)[j]? = _
    rw [Array.getElem?_append_left (by simpa [gvs] using hj)]
    unfold gvs
    simp [List.getD, List.getElem?_eq_getElem hj]
theorem bls28 (w : World) (a b : Int) (x : Option Addr) (y z : Nat) : (Instr.buildSlice 28 1 #[(0, .agg #[.int .i64 a, .int .i64 b, .slice x y z])]).run Try.prog w = .ok (.slice (some ⟨w.heap.size, 0, none⟩) 1 1) (w.alloc (.cells #[.int .i64 a, .int .i64 b, .slice x y z] 55)) := by kernel_rfl
theorem bld55 (w : World) (a b : Int) (x : Option Addr) (y z : Nat) : (Instr.build 55 #[(0, .int .i64 a), (1, .int .i64 b), (2, .slice x y z)]).run Try.prog w = .ok (.agg #[.int .i64 a, .int .i64 b, .slice x y z]) w := by kernel_rfl
/-- a service more -/
theorem RR.add {K : Nat → Nat} {w : World} {t u p : Nat} {v : Value} {L : List Sv} (h : RR K w t u p v L) (ht : ¬ t = 7) (hu : ¬ u = 7) (htu : ¬ u = t) {N : Nat} {s : Sv} (hb : w.heap[N]? = some (.cells (rvA s) 55 (0, 0))) (gs : GsT K w 7 s.oa s.procs) (ok : okS s) (hm : L.length < 16) :
    ∃ v' w' K', (∀ r, (Builtin.append_ #[28, 28] r #[v, .slice (some ⟨N, 0, none⟩) 1 1]).run Try.prog w = .ok v' w') ∧ (∃ oa c, v' = .slice oa (L.length + 1) c) ∧ w'.cell? ⟨p, 0, none⟩ = some v ∧ w'.frozen? ⟨p, 0, none⟩ = false ∧ RR K' (w'.setCell ⟨p, 0, none⟩ v') t u p v' (L ++ [s]) ∧ Mv (fun x => x = t ∨ x = u) w (w'.setCell ⟨p, 0, none⟩ v') K K' := by
  obtain ⟨i, hi, hz, hs, hby⟩ := info55
  obtain ⟨v', w', K', hr, hrow, hmv⟩ := RW.app (ty := 28) (N := N) (x := s) (cs := rvA s) Try.underlying28 hi hz hs hby rfl (by omega) rvC_len (fun x y hy => by simp [rvC] at hy; rcases hy with rfl | rfl | rfl <;> rfl) h.row (Nat.zero_le _) rfl hb (by omega) (by omega)
  obtain ⟨oa, c, e1, _⟩ := hrow.form
  have hd' := h.hd.mv hmv (fun e => htu e.symm)
  have m := Mv.of_set w' K' ⟨p, 0, none⟩ v' (t := t) hd'.k
  refine ⟨v', w', K', hr, ⟨oa, c, by rw [e1, List.length_append]; rfl⟩, by unfold World.cell?; rw [hd'.at_]; rfl, by unfold World.frozen?; rw [hd'.at_]; rfl, ⟨⟨?_, hd'.k⟩, hrow.mv m htu, fun x hx => ?_, fun x hx => ?_, by simp; omega⟩, (hmv.mono (fun _ h => .inr h)).trans (m.mono (fun _ h => .inl h))⟩
  · unfold World.setCell
    simp [Array.getElem?_modify, hd'.at_]
  · rcases List.mem_append.1 hx with hx | hx
    · exact ((h.gs x hx).mv hmv (fun e => hu e.symm)).mv m (fun e => ht e.symm)
    · simp at hx; subst hx; exact (gs.mv hmv (fun e => hu e.symm)).mv m (fun e => ht e.symm)
  · rcases List.mem_append.1 hx with hx | hx
    · exact h.ok x hx
    · simp at hx; subst hx; exact ok
theorem may_same (s : Sv) : mayP s true = rmayP s := by unfold mayP rmayP; simp
end Go.Proofs.Ytcpjihaicmlmjaa
