/- A client among the others; askKnown. -/
import Derived.Test.YtnpffhgmakbdnaaRoMh
namespace Go.Proofs.Ytnpffhgmakbdnaa
open Go.RowKit
theorem tot_app (rs : Nat) (A B : List Cl) : tot rs (A ++ B) = tot rs A + tot rs B := by simp [tot]
theorem tot_mid (rs : Nat) (A B : List Cl) (c : Cl) : tot rs (A ++ c :: B) = tot rs A + byt rs c.ents + tot rs B := by simp [tot]; omega
theorem byt_filter (rs : Nat) (q : En → Bool) : ∀ l : List En, byt rs (l.filter q) ≤ byt rs l
  | [] => by simp [byt]
  | e :: l => by
    have ih := byt_filter rs q l
    by_cases h : q e = true
    · rw [List.filter_cons_of_pos h]
      simp only [byt, List.map_cons, List.sum_cons] at ih ⊢
      omega
    · rw [List.filter_cons_of_neg h]
      simp only [byt, List.map_cons, List.sum_cons] at ih ⊢
      omega
theorem raise_same (c : Cl) (water : Int) : (raiseC c water).a = c.a ∧ (raiseC c water).i = c.i ∧ (raiseC c water).b = c.b ∧ (raiseC c water).m = c.m := by
  unfold raiseC
  split <;> exact ⟨rfl, rfl, rfl, rfl⟩
theorem raise_ok {g : Cf} {c : Cl} {water : Int} (h : ClOk g c) (hw : 1 ≤ water ∧ water ≤ 4294967295) : ClOk g (raiseC c water) := by
  unfold raiseC
  split
  · exact h
  · rename_i hn
    refine ⟨h.a, h.i, hw, fun e he => ?_, (List.filter_sublist.map _).nodup h.nd, Nat.le_trans (List.length_filter_le _ _) h.len⟩
    obtain ⟨h1, h2⟩ := List.mem_filter.1 he
    have h3 := h.en e h1
    exact ⟨by simpa using h2, h3.hi, h3.rep, h3.non⟩
theorem raise_byt (rs : Nat) (c : Cl) (water : Int) : byt rs (raiseC c water).ents ≤ byt rs c.ents := by
  unfold raiseC
  split
  · exact Nat.le_refl _
  · exact byt_filter _ _ _
section
variable {w w' : World} {p mm : Nat} {g : Cf} {A B C : List Cl} {c c' : Cl}
theorem nd_mid {α : Type} {x : α} {A B : List α} (h : (A ++ x :: B).Nodup) : x ∉ A ∧ x ∉ B := by
  have h1 := (List.nodup_cons.1 (List.perm_middle.nodup_iff.1 h)).1
  exact ⟨fun e => h1 (by simp [e]), fun e => h1 (by simp [e])⟩
theorem PC.bm (h : PC w p g mm C) {c d : Cl} (hc : c ∈ C) (hd : d ∈ C) : c.b ≠ d.m := fun e => by
  obtain ⟨es, k, h1, _⟩ := (h.cl d hd).2
  have h2 := (h.cl c hc).1
  rw [e, h1] at h2
  cases h2
theorem PC.bmm (h : PC w p g mm C) {c : Cl} (hc : c ∈ C) : c.b ≠ mm := fun e => by
  obtain ⟨es, k, h1, _⟩ := h.mp
  have h2 := (h.cl c hc).1
  rw [e, h1] at h2
  cases h2
theorem PC.upd (h : PC w p g mm (A ++ c :: B)) (hs : c'.a = c.a ∧ c'.i = c.i ∧ c'.b = c.b ∧ c'.m = c.m) (hC : CL w' g c') (hch : Chg [c.b, c.m] [c.b, c.m] w w') (hok : ClOk g c') (ht : tot g.rs (A ++ c' :: B) ≤ g.by_) :
    PC w' p g mm (A ++ c' :: B) ∧ Chg (foot p mm (A ++ c :: B)) (foot p mm (A ++ c' :: B)) w w' := by
  obtain ⟨s1, s2, s3, s4⟩ := hs
  have hcm : c ∈ A ++ c :: B := by simp
  have hpc := (h.at hcm).pb h.me
  have eb : (A ++ c' :: B).map Cl.b = (A ++ c :: B).map Cl.b := by simp [s3]
  have em : (A ++ c' :: B).map Cl.m = (A ++ c :: B).map Cl.m := by simp [s4]
  have ek : (A ++ c' :: B).map Cl.ky = (A ++ c :: B).map Cl.ky := by simp [Cl.ky, s1, s2, s3]
  have ew : (A ++ c' :: B).map (fun c => (c.a, c.i)) = (A ++ c :: B).map (fun c => (c.a, c.i)) := by simp [s1, s2]
  have hnb := h.nb
  have hnm := h.nm
  have kp : ∀ x, x < w.heap.size → x ≠ c.b → x ≠ c.m → w'.heap[x]? = w.heap[x]? := fun x hx h1 h2 => hch.kept x hx (by simp [h1, h2])
  have hmm : mm ≠ c.m := fun e => (List.nodup_cons.1 hnm).1 (by rw [e]; exact List.mem_map.2 ⟨c, hcm, rfl⟩)
  refine ⟨⟨(kp p (h.lt p (by simp)) hpc.1 hpc.2).trans h.me, h.ok, ?_, ?_, ⟨?_, by rw [ew]; exact h.st.who, ?_, ht⟩, by rw [eb]; exact hnb, by rw [em]; exact hnm⟩, ?_⟩
  · rw [ek]
    exact h.mp.kept (kp mm h.mp.lt (fun e => h.bmm hcm e.symm) hmm)
  · intro d hd
    have hd2 : d = c' ∨ (d ∈ A ++ c :: B ∧ (d ∈ A ∨ d ∈ B)) := by
      rcases List.mem_append.1 hd with h1 | h1
      · exact .inr ⟨by simp [h1], .inl h1⟩
      · rcases List.mem_cons.1 h1 with h1 | h1
        · exact .inl h1
        · exact .inr ⟨by simp [h1], .inr h1⟩
    rcases hd2 with rfl | ⟨h1, h2⟩
    · exact ⟨hC.blk, hC.mp⟩
    · have n1 : d.b ≠ c.b := fun e => by
        rw [List.map_append, List.map_cons] at hnb
        obtain ⟨q1, q2⟩ := nd_mid hnb
        rcases h2 with h2 | h2
        · exact q1 (by rw [← e]; exact List.mem_map.2 ⟨d, h2, rfl⟩)
        · exact q2 (by rw [← e]; exact List.mem_map.2 ⟨d, h2, rfl⟩)
      have n2 : d.m ≠ c.m := fun e => by
        have hnm2 := (List.nodup_cons.1 hnm).2
        rw [List.map_append, List.map_cons] at hnm2
        obtain ⟨q1, q2⟩ := nd_mid hnm2
        rcases h2 with h2 | h2
        · exact q1 (by rw [← e]; exact List.mem_map.2 ⟨d, h2, rfl⟩)
        · exact q2 (by rw [← e]; exact List.mem_map.2 ⟨d, h2, rfl⟩)
      have hl := (h.at h1).lt
      exact ⟨(kp d.b hl.1 n1 (h.bm h1 hcm)).trans (h.cl d h1).1, (h.cl d h1).2.kept (kp d.m hl.2 (fun e => h.bm hcm h1 e.symm) n2)⟩
  · intro d hd
    rcases List.mem_append.1 hd with h1 | h1
    · exact h.st.cl d (by simp [h1])
    · rcases List.mem_cons.1 h1 with h1 | h1
      · rw [h1]; exact hok
      · exact h.st.cl d (by simp [h1])
  · have := h.st.len
    simpa using this
  · refine ⟨hch.os, hch.tape, hch.output, hch.size, fun x hx hF => kp x hx (fun e => hF (by rw [e]; simp)) (fun e => hF (by rw [e]; simp)), fun x hx => .inl ?_⟩
    rw [foot, feet, eb, em] at hx
    exact hx
theorem raiseIn (h : PC w p g mm (A ++ c :: B)) {water : Int} (hw : 1 ≤ water ∧ water ≤ 4294967295) :
    Calls Try.prog 32 #[ptr p, ptr c.b, .int .i64 water] w fun e w' => e = .returned (.tuple #[]) ∧ PC w' p g mm (A ++ raiseC c water :: B) ∧ Chg (foot p mm (A ++ c :: B)) (foot p mm (A ++ raiseC c water :: B)) w w' := by
  have hcm : c ∈ A ++ c :: B := by simp
  refine (raise_any (water := water) h.me h.ok (h.at hcm) (h.st.cl c hcm)).mono ?_
  rintro e w' ⟨rfl, h1, h2⟩
  refine ⟨rfl, h.upd (raise_same c water) h1 h2 (raise_ok (h.st.cl c hcm) hw) ?_⟩
  have h3 := h.st.tot
  have h4 := raise_byt g.rs c water
  rw [tot_mid] at h3 ⊢
  omega
theorem known_old (h : PC w p g mm C) (hc : c ∈ C) {seq : Int} (hs : seq < c.water) :
    Calls Try.prog 33 #[ptr p, ptr c.b, .int .i64 seq] w fun e w' => e = .returned (.tuple #[.int .i64 4, .string ⟨#[]⟩]) ∧ w' = w := by
  have x0 := cl0 (h.cl c hc).1
  have d : decide (seq < c.water) = true := by simpa using hs
  clear h hs hc
  generalize c.b = cb at *
  generalize c.water = cw at *
  go_enter Try.func33, Try.ntmps33
  go_wp2
  go_ret2
  exact ⟨rfl, rfl⟩
set_option maxRecDepth 4000 in
theorem known_en (h : PC w p g mm C) (hc : c ∈ C) {e : En} (he : e ∈ c.ents) :
    Calls Try.prog 33 #[ptr p, ptr c.b, .int .i64 e.seq] w fun r w' => r = .returned (.tuple #[.int .i64 (if e.ans then 3 else 2), .string e.rep]) ∧ Below w.heap.size w w' := by
  have x0 := cl0 (h.cl c hc).1
  have x2 := cl2 (h.cl c hc).1
  have hok := h.st.cl c hc
  have heo := hok.en e he
  have d : decide (e.seq < c.water) = false := by have := heo.lo; simp; omega
  have hl := look_en (h.at hc) hok (seq := e.seq) (by have := heo.lo; have := heo.hi; have := hok.w; omega)
  rw [enAt_is hok.nd he] at hl
  have hnon := heo.non
  obtain ⟨seq, ans, rep⟩ := e
  have hl' : (Instr.lookup 74 (.map (some c.m)) (.int .i64 seq) true).run Try.prog w = .ok (.tuple #[.agg #[.bool ans, .string rep], .bool true]) w := hl
  obtain ⟨w1, hw1⟩ : ∃ w1, w.alloc (.cells #[.bool ans, .string rep] 79) = w1 := ⟨_, rfl⟩
  have B1 : Below w.heap.size w w1 := by rw [← hw1]; exact below_box _ _
  have kb : w1.heap[w.heap.size]? = some (.cells #[.bool ans, .string rep] 79) := by rw [← hw1]; exact (MapKept.heap_alloc w _).1
  obtain ⟨A0, hA⟩ : ∃ A0, w.heap.size = A0 := ⟨_, rfl⟩
  rw [hA] at kb
  have k0 : w1.cell? ⟨A0, 0, none⟩ = some (.bool ans) := by unfold World.cell?; rw [kb]; rfl
  have k1 : w1.cell? ⟨A0, 1, none⟩ = some (.string rep) := by unfold World.cell?; rw [kb]; rfl
  have HB := hid B1
  have HB2 : Hid (Below w.heap.size w w1.drew) := B1.drew
  rw [hA] at HB HB2 ⊢
  simp only at d hnon
  clear h hc he hl hok heo B1 kb
  generalize c.b = cb at *
  generalize c.m = cm at *
  generalize c.water = cw at *
  cases ans
  · have hrep : rep = ⟨#[]⟩ := hnon rfl
    have HREP := hid hrep
    clear hnon hrep
    go_enter Try.func33, Try.ntmps33
    go_wp2
    go_ret2
    exact ⟨by rw [HREP.out]; rfl, HB.out⟩
  · clear hnon
    go_enter Try.func33, Try.ntmps33
    go_wp2
    go_region
    all_goals (
      go_wp2
      go_ret2
      exact ⟨rfl, HB2.out⟩)
end
end Go.Proofs.Ytnpffhgmakbdnaa
