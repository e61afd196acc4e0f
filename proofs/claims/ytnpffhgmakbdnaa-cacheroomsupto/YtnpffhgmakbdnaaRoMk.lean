/- askOther. -/
import Derived.Test.YtnpffhgmakbdnaaRoMj
namespace Go.Proofs.Ytnpffhgmakbdnaa
open Go.RowKit
section
variable {w w' : World} {p mm : Nat} {g : Cf} {A B C : List Cl} {c c' : Cl}
theorem other_old (a i seq water : Int) (hs : seq < water) :
    Calls Try.prog 34 #[ptr p, whoV a i, .int .i64 seq, .int .i64 water] w fun e w' => e = .returned (.int .i64 4) ∧ Below w.heap.size w w' := by
  have d : decide (seq < water) = true := by simpa using hs
  have HB := hid (below_box w (.cells #[.int .i64 a, .int .i64 i] 37))
  clear hs
  go_enter Try.func34, Try.ntmps34
  go_wp2
  go_ret
  exact ⟨rfl, HB.out⟩
set_option maxRecDepth 4000 in
theorem other_many (h : PC w p g mm C) (a i seq water : Int) (hs : ¬ seq < water) (hf : g.cl ≤ C.length) :
    Calls Try.prog 34 #[ptr p, whoV a i, .int .i64 seq, .int .i64 water] w fun e w' => e = .returned (.int .i64 5) ∧ Below w.heap.size w w' := by
  have d : decide (seq < water) = false := by simpa using hs
  obtain ⟨w1, hw1⟩ : ∃ w1, w.alloc (.cells #[.int .i64 a, .int .i64 i] 37) = w1 := ⟨_, rfl⟩
  have B1 : Below w.heap.size w w1 := by rw [← hw1]; exact below_box _ _
  have h1 := h.below B1
  have z0 := h1.c0
  have z4 := h1.c4
  have hlen : ∀ i ty, (Builtin.len_ #[65] ty #[.map (some mm)]).run Try.prog (w1.drewN i) = .ok (.int .i64 (C.map Cl.ky).length) (w1.drewN i) := fun i => (h1.drewN i).mp.len
  rw [List.length_map] at hlen
  have hgd : decide ((g.cl : Int) ≤ (C.length : Int)) = true := by simp; omega
  have hgn : decide (g.cl ≤ C.length) = true := by simpa using hf
  have HB : Hid (∀ i, Below w.heap.size w (w1.drewN i)) := fun i => ⟨B1.os, B1.tape, B1.output, B1.size, B1.block⟩
  clear h h1 B1 hf hs
  generalize C.length = n at *
  go_enter Try.func34, Try.ntmps34
  go_wp2
  go_quiet (fail)
  all_goals (
    go_wp2
    go_ret
    exact ⟨rfl, HB.out _⟩)
set_option maxRecDepth 4000 in
theorem other_room (h : PC w p g mm C) (a i seq water : Int) (hs : ¬ seq < water) (hf : C.length < g.cl) (hr : ¬ tot g.rs C + g.rs ≤ g.by_) :
    Calls Try.prog 34 #[ptr p, whoV a i, .int .i64 seq, .int .i64 water] w fun e w' => e = .returned (.int .i64 5) ∧ Below w.heap.size w w' := by
  have d : decide (seq < water) = false := by simpa using hs
  obtain ⟨w1, hw1⟩ : ∃ w1, w.alloc (.cells #[.int .i64 a, .int .i64 i] 37) = w1 := ⟨_, rfl⟩
  have B1 : Below w.heap.size w w1 := by rw [← hw1]; exact below_box _ _
  have h1 := h.below B1
  have z0 := h1.c0
  have z4 := h1.c4
  have hlen : ∀ i ty, (Builtin.len_ #[65] ty #[.map (some mm)]).run Try.prog (w1.drewN i) = .ok (.int .i64 (C.map Cl.ky).length) (w1.drewN i) := fun i => (h1.drewN i).mp.len
  rw [List.length_map] at hlen
  have hgd : decide ((g.cl : Int) ≤ (C.length : Int)) = false := by simp; omega
  have hgn : decide (g.cl ≤ C.length) = false := by simp; omega
  have HR : Hid (∀ i, Calls Try.prog 43 #[ptr p] (w1.drewN i) fun e w' => e = .returned (.bool false) ∧ Below w1.heap.size (w1.drewN i) w') := fun i => by
    have h9 := hasRoom_any (h1.drewN i)
    rw [show decide (tot g.rs C + g.rs ≤ g.by_) = false by simpa using hr] at h9
    exact h9
  have s1 : w1.cell? ⟨p, 4, none⟩ = some (.map (some mm)) ∧ w1.cell? ⟨p, 0, none⟩ = some (.int .i64 g.cl) ∧ ∀ ty, (Builtin.len_ #[65] ty #[.map (some mm)]).run Try.prog w1 = .ok (.int .i64 C.length) w1 := ⟨z4, z0, hlen 0⟩
  have s2 : ∀ i, (w1.drewN i).cell? ⟨p, 4, none⟩ = some (.map (some mm)) ∧ (w1.drewN i).cell? ⟨p, 0, none⟩ = some (.int .i64 g.cl) ∧ ∀ ty, (Builtin.len_ #[65] ty #[.map (some mm)]).run Try.prog (w1.drewN i) = .ok (.int .i64 C.length) (w1.drewN i) := fun i => ⟨z4, z0, hlen i⟩
  have S7 : Hid (∀ i w5, Below w1.heap.size (w1.drewN i) w5 → (w5.cell? ⟨p, 4, none⟩ = some (.map (some mm)) ∧ w5.cell? ⟨p, 0, none⟩ = some (.int .i64 g.cl) ∧ ∀ ty, (Builtin.len_ #[65] ty #[.map (some mm)]).run Try.prog w5 = .ok (.int .i64 C.length) w5) ∧ Below w.heap.size w w5) := fun i w5 hb => by
    have h5 := (h1.drewN i).below hb
    have hl5 := h5.mp.len
    rw [List.length_map] at hl5
    exact ⟨⟨h5.c4, h5.c0, hl5⟩, B1.trans ((show Below w1.heap.size w1 w5 from ⟨hb.os, hb.tape, hb.output, hb.size, hb.block⟩).mono B1.size)⟩
  clear h h1 B1 hf hs hlen hr
  generalize C.length = n at *
  go_enter Try.func34, Try.ntmps34
  go_wp2_with fail
  go_region_held3 (fun w' => w'.cell? ⟨p, 4, none⟩ = some (.map (some mm)) ∧ w'.cell? ⟨p, 0, none⟩ = some (.int .i64 g.cl) ∧ ∀ ty, (Builtin.len_ #[65] ty #[.map (some mm)]).run Try.prog w' = .ok (.int .i64 n) w') (first | with_reducible exact s1 | with_reducible exact s2 _ | with_reducible exact s7 | exact s2 1 | exact s1) (first
    | (go_at_call 43
       refine (HR.out _).mono ?_
       rintro e w5 ⟨rfl, hB5⟩
       obtain ⟨s7, hW⟩ := S7.out _ w5 hB5
       have HW := hid hW
       clear hB5 hW))
  all_goals (
    go_wp2
    go_ret
    exact ⟨rfl, HW.out⟩)
theorem CL.fresh (w : World) (g : Cf) (a i water : Int) :
    CL ((w.alloc (.map #[] 0)).alloc (.cells #[.int .i64 water, .int .i64 0, .map (some w.heap.size)] 76)) g ⟨a, i, water, [], w.heap.size + 1, w.heap.size⟩ := by
  have e1 : (w.alloc (.map #[] 0)).heap.size = w.heap.size + 1 := by simp
  refine ⟨?_, #[], 0, ?_, by simp, by simp, by simp⟩
  · rw [← e1]; exact (MapKept.heap_alloc _ _).1
  · rw [heap_alloc_old _ _ (by rw [e1]; exact Nat.lt_succ_self _)]; exact (MapKept.heap_alloc w _).1
/-- a client more -/
theorem PC.add (h : PC w p g mm C) (hB : Below w.heap.size w w') (hC : CL w' g c) (hnb : w.heap.size ≤ c.b) (hnm : w.heap.size ≤ c.m) (hok : ClOk g c) (hn : ∀ d ∈ C, ¬ d.is c.a c.i) (hl : C.length < g.cl) (ht : tot g.rs (C ++ [c]) ≤ g.by_) :
    ∃ w2, (Instr.mapUpdate 65 (.map (some mm)) (whoV c.a c.i) (ptr c.b)).run Try.prog w' = .ok () w2 ∧ PC w2 p g mm (C ++ [c]) ∧ Chg (foot p mm C) (foot p mm (C ++ [c])) w w2 := by
  have h1 := h.below hB
  obtain ⟨l, hl2⟩ := key37 c.a c.i (wf_of (by have := hok.a; omega)) (wf_of (by have := hok.i; omega))
  obtain ⟨w2, e1, e2, e3⟩ := h1.mp.store (okC h.st) (x := c.ky) hl2 (fun k hk e => by
    obtain ⟨d, hd, rfl⟩ := List.mem_map.1 hk
    simp [kdC, Cl.ky] at e
    exact hn d hd e)
  have lt := h.lt
  have bmm : c.b ≠ mm := by have := lt mm (by simp); omega
  have mmm : c.m ≠ mm := by have := lt mm (by simp); omega
  have hdb : ∀ d ∈ C, d.b < w.heap.size := fun d hd => ((h.at hd).lt).1
  have hdm : ∀ d ∈ C, d.m < w.heap.size := fun d hd => ((h.at hd).lt).2
  have hpm : p ≠ mm := fun e => by
    obtain ⟨es, k, q1, _⟩ := h.mp
    have := h.me
    rw [e, q1] at this
    cases this
  refine ⟨w2, e1, ⟨(e3.kept p hpm).trans h1.me, h.ok, by rw [List.map_append]; exact e2, ?_, ⟨?_, ?_, by simp; omega, ht⟩, ?_, ?_⟩, ?_⟩
  · intro d hd
    rcases List.mem_append.1 hd with q | q
    · have hdmm : d.m ≠ mm := fun e => (List.nodup_cons.1 h.nm).1 (by rw [← e]; exact List.mem_map.2 ⟨d, q, rfl⟩)
      exact ⟨(e3.kept _ (h.bmm q)).trans (h1.cl d q).1, (h1.cl d q).2.kept (e3.kept _ hdmm)⟩
    · simp at q
      subst q
      exact ⟨(e3.kept _ bmm).trans hC.blk, hC.mp.kept (e3.kept _ mmm)⟩
  · intro d hd
    rcases List.mem_append.1 hd with q | q
    · exact h.st.cl d q
    · simp at q; rw [q]; exact hok
  · rw [List.map_append]
    refine List.nodup_append.2 ⟨h.st.who, by simp, fun x hx y hy e => ?_⟩
    obtain ⟨d, hd, rfl⟩ := List.mem_map.1 hx
    simp at hy
    rw [hy] at e
    simp at e
    exact hn d hd e
  · rw [List.map_append]
    refine List.nodup_append.2 ⟨h.nb, by simp, fun x hx y hy e => ?_⟩
    obtain ⟨d, hd, rfl⟩ := List.mem_map.1 hx
    simp at hy
    have := hdb d hd
    omega
  · rw [List.map_append, ← List.cons_append]
    refine List.nodup_append.2 ⟨h.nm, by simp, fun x hx y hy e => ?_⟩
    simp at hy
    rcases List.mem_cons.1 hx with q | q
    · omega
    · obtain ⟨d, hd, rfl⟩ := List.mem_map.1 q
      have := hdm d hd
      omega
  · refine ⟨e3.os.trans hB.os, e3.tape.trans hB.tape, e3.output.trans hB.output, by rw [e3.size]; exact hB.size, fun x hx hF => (e3.kept x (fun e => hF (by rw [e]; simp))).trans (hB.block x hx), fun x hx => ?_⟩
    simp only [foot, feet, List.map_append, List.map_cons, List.map_nil, List.mem_cons, List.mem_append, List.not_mem_nil, or_false] at hx ⊢
    rcases hx with q | q | (q | q) | (q | q)
    · exact .inl (.inl q)
    · exact .inl (.inr (.inl q))
    · exact .inl (.inr (.inr (.inl q)))
    · exact .inr (by omega)
    · exact .inl (.inr (.inr (.inr q)))
    · exact .inr (by omega)
end
end Go.Proofs.Ytnpffhgmakbdnaa
