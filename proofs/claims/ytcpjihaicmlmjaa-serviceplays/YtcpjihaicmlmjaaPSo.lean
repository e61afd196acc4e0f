/- Services: one more. -/
import Derived.Test.YtcpjihaicmlmjaaPSm
namespace Go.Proofs.Ytcpjihaicmlmjaa
open Go.RowKit
theorem rows_app (l m : List Sv) : (l ++ m).flatMap svC = l.flatMap svC ++ m.flatMap svC := List.flatMap_append
theorem rows_len (l : List Sv) : (l.flatMap svC).length = l.length * 4 := fm_len svC_len l
theorem app50 (w : World) (oa : Option Addr) (L : List Sv) (n g N : Nat) (x : Sv) (hn : L.length = n) (hoa : oa = some ⟨g, 0, none⟩ ∨ oa = none ∧ n = 0) (ha : oa = some ⟨g, 0, none⟩ → ∀ j v, (L.flatMap svC)[j]? = some v → w.cell? ⟨g, j, none⟩ = some v) (hb : w.heap[N]? = some (.cells (svA x hd) 48 (0, 0))) (hm : n ≤ 1000000) :
    ∃ cap w', (∀ ty, (Builtin.append_ #[50, 50] ty #[.slice oa n n, .slice (some ⟨N, 0, none⟩) 1 1]).run Try.prog w = .ok (.slice (some ⟨w.heap.size, 0, none⟩) (n + 1) cap) w') ∧
      w'.ownsRow w.heap.size 48 4 (.slice (some ⟨w.heap.size, 0, none⟩) (n + 1) cap) (n + 1) ((L ++ [x]).flatMap svC) ∧ w.grownBy w' none ∧ w'.heap.size = w.heap.size + 1 := by
  obtain ⟨i, hi, hz, hs, hby⟩ := info48
  have hlen : (L.flatMap svC ++ svC x).length = (n + 1) * 4 := by rw [List.length_append, rows_len, svC_len, hn]; omega
  have hge := grownCap_ge w (n + 1) n 48
  have hcm : grownCap w (n + 1) n 48 ≤ maxLen := grownCap_le_maxLen w _ _ _ (by unfold maxLen; omega)
  have hnews : ∀ j v, (svC x)[j]? = some v → w.cell? ((⟨N, 0, none⟩ : Addr).add j) = some v := World.news_of_block hb
  have key : ∀ ty, (Builtin.append_ #[50, 50] ty #[.slice oa n n, .slice (some ⟨N, 0, none⟩) 1 1]).run Try.prog w = .ok (.slice (some ⟨w.heap.size, 0, none⟩) (n + 1) (grownCap w (n + 1) n 48))
        (w.drew.alloc (.cells ((L.flatMap svC).toArray ++ (svC x).toArray ++ Builtin.zeroCells (Value.agg #[.int .i64 0, .int .i64 0, .slice none 0 0, .nilFunc]).cells (grownCap w (n + 1) n 48 - (n + 1))) 48)) := fun ty => by
    rcases hoa with rfl | ⟨rfl, rfl⟩
    · exact run_append_grow (P := Try.prog) w 50 ty 48 i _ Try.underlying50 hi hz ⟨g, 0, none⟩ n n (L.flatMap svC) (by rw [rows_len, hs, hn]) (fun j v hv => by rw [Addr.add_lit, Nat.zero_add]; exact ha rfl j v hv) ⟨N, 0, none⟩ 1 1 (svC x) (by rw [svC_len, hs]) hnews (by omega) (by omega) (by rw [hby]; exact growslice_fits (by omega) (by omega))
    · obtain rfl : L = [] := List.eq_nil_of_length_eq_zero hn
      have := run_append_nil (P := Try.prog) w 50 ty 48 i _ Try.underlying50 hi hz ⟨N, 0, none⟩ 1 1 (svC x) (by rw [svC_len, hs]) hnews (by omega) (by omega) (by rw [hby]; omega)
      simpa using this
  refine ⟨_, _, key, ⟨by rw [rows_app]; simpa using hlen, .inr ⟨w.heap.size, _, _, rfl, Nat.le_refl _, heap_alloc_new w.drew _, hge, hcm, ?_, ?_⟩⟩, ⟨rfl, rfl, rfl, by simp, fun k hk _ => Below.heap_alloc w.drew _ k hk⟩, by simp⟩
  · simp only [Array.size_append, List.size_toArray, size_zeroCells, rows_len, svC_len, hn]
    simp [Value.cells]; omega
  · rw [rows_app, show [x].flatMap svC = svC x by simp]
    simp only [Array.toList_append, List.append_assoc]
    rw [← List.append_assoc, ← hlen]
    exact List.take_left
/-- a service more -/
theorem PR.add {K : Nat → Nat} {w : World} {t p : Nat} {oa : Option Addr} {cap : Nat} {L : List Sv} (h : PR K w t p oa cap L) (ht : ¬ t = 7) {ob : Option Addr} {c : Nat} {s : Sv} (row : RW 48 4 svC K w 0 7 (.slice ob (L ++ [s]).length c) (L ++ [s])) (gs : GsT K w 7 s.oa s.procs) (ok : okS s) (hm : L.length < 16) :
    PR K (w.setCell ⟨p, 0, none⟩ (.slice ob (L ++ [s]).length c)) t p ob c (L ++ [s]) ∧ Mv (fun x => x = t) w (w.setCell ⟨p, 0, none⟩ (.slice ob (L ++ [s]).length c)) K K := by
  have m := Mv.of_set w K ⟨p, 0, none⟩ (.slice ob (L ++ [s]).length c) (t := t) h.hd.k
  have h7 : ¬ (7 = t) := fun e => ht e.symm
  refine ⟨⟨⟨?_, h.hd.k⟩, row.mv m h7, fun x hx => ?_, fun x hx => ?_, by simp; omega⟩, m⟩
  · unfold World.setCell
    simp [Array.getElem?_modify, h.hd.at_]
  · rcases List.mem_append.1 hx with hx | hx
    · exact (h.gs x hx).mv m h7
    · simp at hx; subst hx; exact gs.mv m h7
  · rcases List.mem_append.1 hx with hx | hx
    · exact h.ok x hx
    · simp at hx; subst hx; exact ok
theorem PR.form {K : Nat → Nat} {w : World} {t p : Nat} {oa : Option Addr} {cap : Nat} {L : List Sv} (h : PR K w t p oa cap L) : L.length ≤ cap ∧ ∃ g, (oa = some ⟨g, 0, none⟩ ∨ oa = none ∧ L.length = 0) ∧ (oa = some ⟨g, 0, none⟩ → ∀ j v, (L.flatMap svC)[j]? = some v → w.cell? ⟨g, j, none⟩ = some v) := by
  have ho := h.row.own
  rcases h.row.own.2 with ⟨e1, e2⟩ | ⟨g, c, _, e1, _, _, e4, _⟩
  · injection e1 with a1 a2 a3
    subst a1
    exact ⟨by omega, 0, .inr ⟨rfl, e2⟩, fun h => by cases h⟩
  · injection e1 with a1 a2 a3
    subst a1 a3
    refine ⟨e4, g, .inl rfl, fun _ j v hv => ?_⟩
    have hj := (List.getElem?_eq_some_iff.1 hv).1
    rw [rows_len] at hj
    rw [ho.cellAt j hj, hv]
theorem bls50 (w : World) (a b c d : Value) (ha : ∃ x, a = .int .i64 x) (hb : ∃ x, b = .int .i64 x) (hc : ∃ x y z, c = .slice x y z) (hd' : d = hd) : (Instr.buildSlice 50 1 #[(0, .agg #[a, b, c, d])]).run Try.prog w = .ok (.slice (some ⟨w.heap.size, 0, none⟩) 1 1) (w.alloc (.cells #[a, b, c, d] 48)) := by
  obtain ⟨x, rfl⟩ := ha
  obtain ⟨y, rfl⟩ := hb
  obtain ⟨z1, z2, z3, rfl⟩ := hc
  subst hd'
  kernel_rfl
end Go.Proofs.Ytcpjihaicmlmjaa
