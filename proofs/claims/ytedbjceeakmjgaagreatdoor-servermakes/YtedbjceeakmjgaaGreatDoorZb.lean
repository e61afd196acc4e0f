/- New: the cache and the server. -/
import Derived.Test.YtedbjceeakmjgaaGreatDoorZa
import Derived.Test.YtedbjceeakmjgaaGreatDoorLq
import Derived.Deep.RegionWith
import Derived.Deep.RegionHeldLaw
namespace Go.Proofs.YtedbjceeakmjgaaGreatDoor
open Go.RowKit
theorem mayBe_any (w : World) (c e b r : Int) : Calls Tryz.prog 44 #[.agg #[.int .i64 c, .int .i64 e, .int .i64 b, .int .i64 r]] w fun x w' => x = .returned (.bool (mayB c e b r)) ∧ Below w.heap.size w w' := by
  obtain ⟨w0, hw0⟩ : ∃ w0, w.alloc (.cells #[.int .i64 c, .int .i64 e, .int .i64 b, .int .i64 r] 23) = w0 := ⟨_, rfl⟩
  have HB : Hid (Below w.heap.size w w0) := by rw [← hw0]; exact below_box _ _
  have kb : w0.heap[w.heap.size]? = some (.cells #[.int .i64 c, .int .i64 e, .int .i64 b, .int .i64 r] 23) := by rw [← hw0]; exact (MapKept.heap_alloc w _).1
  obtain ⟨A0, hA⟩ : ∃ A0, w.heap.size = A0 := ⟨_, rfl⟩
  rw [hA] at kb HB ⊢
  have c0 : w0.cell? ⟨A0, 0, none⟩ = some (.int .i64 c) := by unfold World.cell?; rw [kb]; rfl
  have c1 : w0.cell? ⟨A0, 1, none⟩ = some (.int .i64 e) := by unfold World.cell?; rw [kb]; rfl
  have c2 : w0.cell? ⟨A0, 2, none⟩ = some (.int .i64 b) := by unfold World.cell?; rw [kb]; rfl
  have c3 : w0.cell? ⟨A0, 3, none⟩ = some (.int .i64 r) := by unfold World.cell?; rw [kb]; rfl
  have H1 := hid (within_any w0 c 1 64)
  have H2 := hid (within_any w0 e 1 64)
  have H3 := hid (within_any w0 r 64 1100)
  have H4 := hid (within_any w0 b r 1048576)
  clear kb
  unfold mayB
  cases h1 : inB c 1 64 <;> rw [h1] at H1
  · go_enter Tryz.func44, Tryz.ntmps44
    go_wp2_with fail
    refine H1.out.mono ?_
    rintro _ _ ⟨rfl, rfl⟩
    go_wp2
    go_ret
    exact ⟨rfl, HB.out⟩
  cases h2 : inB e 1 64 <;> rw [h2] at H2
  · go_enter Tryz.func44, Tryz.ntmps44
    go_wp2_with fail
    refine H1.out.mono ?_
    rintro _ _ ⟨rfl, rfl⟩
    go_wp2_with fail
    refine H2.out.mono ?_
    rintro _ _ ⟨rfl, rfl⟩
    go_wp2
    go_ret
    exact ⟨rfl, HB.out⟩
  cases h3 : inB r 64 1100 <;> rw [h3] at H3
  · go_enter Tryz.func44, Tryz.ntmps44
    go_wp2_with fail
    refine H1.out.mono ?_
    rintro _ _ ⟨rfl, rfl⟩
    go_wp2_with fail
    refine H2.out.mono ?_
    rintro _ _ ⟨rfl, rfl⟩
    go_wp2_with fail
    refine H3.out.mono ?_
    rintro _ _ ⟨rfl, rfl⟩
    go_wp2
    go_ret
    exact ⟨rfl, HB.out⟩
  generalize inB b r 1048576 = q at *
  go_enter Tryz.func44, Tryz.ntmps44
  go_wp2_with fail
  refine H1.out.mono ?_
  rintro _ _ ⟨rfl, rfl⟩
  go_wp2_with fail
  refine H2.out.mono ?_
  rintro _ _ ⟨rfl, rfl⟩
  go_wp2_with fail
  refine H3.out.mono ?_
  rintro _ _ ⟨rfl, rfl⟩
  go_wp2_with fail
  refine H4.out.mono ?_
  rintro _ _ ⟨rfl, rfl⟩
  go_wp2
  go_ret
  exact ⟨rfl, HB.out⟩
theorem new_bad (w : World) (c e b r : Int) (h : mayB c e b r = false) : Calls Tryz.prog 18 #[.agg #[.int .i64 c, .int .i64 e, .int .i64 b, .int .i64 r]] w fun x w' => x = .returned (.tuple #[.pointer none, .int .i64 150]) ∧ Below w.heap.size w w' := by
  obtain ⟨w0, hw0⟩ : ∃ w0, w.alloc (.cells #[.int .i64 c, .int .i64 e, .int .i64 b, .int .i64 r] 23) = w0 := ⟨_, rfl⟩
  have B0 : Below w.heap.size w w0 := by rw [← hw0]; exact below_box _ _
  have kb : w0.heap[w.heap.size]? = some (.cells #[.int .i64 c, .int .i64 e, .int .i64 b, .int .i64 r] 23) := by rw [← hw0]; exact (MapKept.heap_alloc w _).1
  have H := hid (mayBe_any w0 c e b r)
  rw [h] at H
  have HB := hid B0
  obtain ⟨A0, hA⟩ : ∃ A0, w.heap.size = A0 := ⟨_, rfl⟩
  rw [hA] at kb HB ⊢
  have c0 : w0.cell? ⟨A0, 0, none⟩ = some (.int .i64 c) := by unfold World.cell?; rw [kb]; rfl
  have c1 : w0.cell? ⟨A0, 1, none⟩ = some (.int .i64 e) := by unfold World.cell?; rw [kb]; rfl
  have c2 : w0.cell? ⟨A0, 2, none⟩ = some (.int .i64 b) := by unfold World.cell?; rw [kb]; rfl
  have c3 : w0.cell? ⟨A0, 3, none⟩ = some (.int .i64 r) := by unfold World.cell?; rw [kb]; rfl
  clear kb B0 h
  go_enter Tryz.func18, Tryz.ntmps18
  go_wp2_with fail
  refine H.out.mono ?_
  rintro _ w1 ⟨rfl, h1⟩
  have HC : Hid (Below A0 w w1) := HB.out.trans (h1.mono (by have := HB.out.size; omega))
  clear h1
  go_wp2
  go_ret2
  exact ⟨rfl, HC.out⟩

theorem new_good (w : World) (c e b r : Int) (h : mayB c e b r = true) : Calls Tryz.prog 18 #[.agg #[.int .i64 c, .int .i64 e, .int .i64 b, .int .i64 r]] w fun x w' => ∃ p m, x = .returned (.tuple #[ptr p, .int .i64 0]) ∧
    w'.heap[p]? = some (.cells #[.int .i64 c, .int .i64 e, .int .i64 b, .int .i64 r, .map (some m)] 67) ∧ w.heap.size ≤ p ∧ Below w.heap.size w w' := by
  obtain ⟨w0, hw0⟩ : ∃ w0, w.alloc (.cells #[.int .i64 c, .int .i64 e, .int .i64 b, .int .i64 r] 23) = w0 := ⟨_, rfl⟩
  have B0 : Below w.heap.size w w0 := by rw [← hw0]; exact below_box _ _
  have kb : w0.heap[w.heap.size]? = some (.cells #[.int .i64 c, .int .i64 e, .int .i64 b, .int .i64 r] 23) := by rw [← hw0]; exact (MapKept.heap_alloc w _).1
  have H := hid (mayBe_any w0 c e b r)
  rw [h] at H
  have HB := hid B0
  have HK := hid kb
  obtain ⟨A0, hA⟩ : ∃ A0, w.heap.size = A0 := ⟨_, rfl⟩
  rw [hA] at kb HB HK ⊢
  have c0 : w0.cell? ⟨A0, 0, none⟩ = some (.int .i64 c) := by unfold World.cell?; rw [kb]; rfl
  have c1 : w0.cell? ⟨A0, 1, none⟩ = some (.int .i64 e) := by unfold World.cell?; rw [kb]; rfl
  have c2 : w0.cell? ⟨A0, 2, none⟩ = some (.int .i64 b) := by unfold World.cell?; rw [kb]; rfl
  have c3 : w0.cell? ⟨A0, 3, none⟩ = some (.int .i64 r) := by unfold World.cell?; rw [kb]; rfl
  have hmk : ∀ w : World, (Instr.makeMap 65 none).run Tryz.prog w = .ok (.map (some w.heap.size)) (w.alloc (.map #[] 0)) := fun _ => rfl
  clear kb B0 h
  go_enter Tryz.func18, Tryz.ntmps18
  go_wp2_with fail
  refine H.out.mono ?_
  rintro _ w1 ⟨rfl, h1⟩
  have HC := hid h1
  have hlt : A0 < w0.heap.size := (Array.getElem?_eq_some_iff.1 HK.out).1
  have kb1 : w1.heap[A0]? = some (.cells #[.int .i64 c, .int .i64 e, .int .i64 b, .int .i64 r] 23) := by rw [h1.block A0 hlt]; exact HK.out
  have d0 : w1.cell? ⟨A0, 0, none⟩ = some (.int .i64 c) := by unfold World.cell?; rw [kb1]; rfl
  have d1 : w1.cell? ⟨A0, 1, none⟩ = some (.int .i64 e) := by unfold World.cell?; rw [kb1]; rfl
  have d2 : w1.cell? ⟨A0, 2, none⟩ = some (.int .i64 b) := by unfold World.cell?; rw [kb1]; rfl
  have d3 : w1.cell? ⟨A0, 3, none⟩ = some (.int .i64 r) := by unfold World.cell?; rw [kb1]; rfl
  clear kb1 h1 c0 c1 c2 c3 hlt
  go_wp2
  go_ret2
  have hsz : (w1.alloc (.map #[] 0)).heap.size = w1.heap.size + 1 := by simp
  have B1 : Below A0 w w1 := HB.out.trans (HC.out.mono (by have := HB.out.size; omega))
  have hA1 : A0 ≤ w1.heap.size := by have := B1.size; omega
  refine ⟨w1.heap.size + 1, w1.heap.size, rfl, ?_, by omega, (B1.alloc hA1 _).alloc (by rw [hsz]; omega) _⟩
  rw [← hsz]
  exact (MapKept.heap_alloc _ _).1
theorem reg_new (w : World) : Calls Tryz.prog 19 #[] w fun x w' => x = .returned (ptr w.heap.size) ∧ w'.heap[w.heap.size]? = some (.cells #[.slice none 0 0] 62) ∧ Below w.heap.size w w' := by
  go_enter Tryz.func19, Tryz.ntmps19
  go_wp2
  go_ret
  exact ⟨rfl, (MapKept.heap_alloc w _).1, below_box _ _⟩
theorem server_new (w : World) (a c e b r : Int) : Calls Tryz.prog 5 #[.agg #[.int .i64 a, .int .i64 c, .int .i64 e, .int .i64 b, .int .i64 r]] w fun x w' => ∃ v, x = .returned (.tuple #[v, .int .i64 (if inB a 1 16777215 && mayB c e b r then 0 else 200)]) ∧
    (if inB a 1 16777215 && mayB c e b r then ∃ p, v = ptr p else v = .pointer none) ∧ Below w.heap.size w w' := by
  obtain ⟨w0, hw0⟩ : ∃ w0, w.alloc (.cells #[.int .i64 a, .int .i64 c, .int .i64 e, .int .i64 b, .int .i64 r] 25) = w0 := ⟨_, rfl⟩
  have B0 : Below w.heap.size w w0 := by rw [← hw0]; exact below_box _ _
  have kb : w0.heap[w.heap.size]? = some (.cells #[.int .i64 a, .int .i64 c, .int .i64 e, .int .i64 b, .int .i64 r] 25) := by rw [← hw0]; exact (MapKept.heap_alloc w _).1
  have HB := hid B0
  have HK := hid kb
  obtain ⟨A0, hA⟩ : ∃ A0, w.heap.size = A0 := ⟨_, rfl⟩
  rw [hA] at kb HB HK ⊢
  have c0 : w0.cell? ⟨A0, 0, none⟩ = some (.int .i64 a) := by unfold World.cell?; rw [kb]; rfl
  have c1 : w0.cell? ⟨A0, 1, none⟩ = some (.int .i64 c) := by unfold World.cell?; rw [kb]; rfl
  have c2 : w0.cell? ⟨A0, 2, none⟩ = some (.int .i64 e) := by unfold World.cell?; rw [kb]; rfl
  have c3 : w0.cell? ⟨A0, 3, none⟩ = some (.int .i64 b) := by unfold World.cell?; rw [kb]; rfl
  have c4 : w0.cell? ⟨A0, 4, none⟩ = some (.int .i64 r) := by unfold World.cell?; rw [kb]; rfl
  have H1 := hid (isAddr_any w0 a)
  clear kb B0
  cases h1 : inB a 1 16777215 <;> rw [h1] at H1
  · go_enter Tryz.func5, Tryz.ntmps5
    go_wp2_with fail
    refine H1.out.mono ?_
    rintro _ _ ⟨rfl, rfl⟩
    go_wp2
    go_ret2
    exact ⟨_, rfl, rfl, HB.out⟩
  cases h2 : mayB c e b r
  · have H2 := hid (new_bad w0 c e b r h2)
    go_enter Tryz.func5, Tryz.ntmps5
    go_wp2_with fail
    refine H1.out.mono ?_
    rintro _ _ ⟨rfl, rfl⟩
    go_wp2_with fail
    refine H2.out.mono ?_
    rintro _ w1 ⟨rfl, hb⟩
    have HC : Hid (Below A0 w w1) := HB.out.trans (hb.mono (by have := HB.out.size; omega))
    clear hb
    go_wp2
    go_ret2
    exact ⟨_, rfl, rfl, HC.out⟩
  · have H2 := hid (new_good w0 c e b r h2)
    have hHW : Hid (A0 < w0.heap.size) := (Array.getElem?_eq_some_iff.1 HK.out).1
    go_enter Tryz.func5, Tryz.ntmps5
    go_wp2_with fail
    refine H1.out.mono ?_
    rintro _ _ ⟨rfl, hw⟩
    obtain rfl := hw
    go_wp2_with fail
    refine H2.out.mono ?_
    rintro _ w1 ⟨p, m, rfl, hp, hle, hb⟩
    have hHC := hb
    have HC : Hid (Below A0 w w1) := HB.out.trans (hb.mono (by have := HB.out.size; omega))
    have kb1 : w1.heap[A0]? = some (.cells #[.int .i64 a, .int .i64 c, .int .i64 e, .int .i64 b, .int .i64 r] 25) := by rw [hb.block A0 hHW.out]; exact HK.out
    have hlp : p < w1.heap.size := (Array.getElem?_eq_some_iff.1 hp).1
    have hla : A0 < w1.heap.size := (Array.getElem?_eq_some_iff.1 kb1).1
    have HS : Hid (∀ w', Below w1.heap.size w1 w' → w'.cell? ⟨A0, 0, none⟩ = some (.int .i64 a) ∧ w'.cell? ⟨A0, 1, none⟩ = some (.int .i64 c) ∧ w'.cell? ⟨A0, 2, none⟩ = some (.int .i64 e) ∧ w'.cell? ⟨A0, 3, none⟩ = some (.int .i64 b) ∧ w'.cell? ⟨A0, 4, none⟩ = some (.int .i64 r) ∧ w'.cell? ⟨p, 0, none⟩ = some (.int .i64 c) ∧ w'.cell? ⟨p, 1, none⟩ = some (.int .i64 e) ∧ w'.cell? ⟨p, 2, none⟩ = some (.int .i64 b) ∧ w'.cell? ⟨p, 3, none⟩ = some (.int .i64 r) ∧ w'.cell? ⟨p, 4, none⟩ = some (.map (some m))) := by
      intro w' hb
      have e1 : w'.heap[A0]? = some (.cells #[.int .i64 a, .int .i64 c, .int .i64 e, .int .i64 b, .int .i64 r] 25) := by rw [hb.block A0 hla]; exact kb1
      have e2 : w'.heap[p]? = some (.cells #[.int .i64 c, .int .i64 e, .int .i64 b, .int .i64 r, .map (some m)] 67) := by rw [hb.block p hlp]; exact hp
      refine ⟨?_, ?_, ?_, ?_, ?_, ?_, ?_, ?_, ?_, ?_⟩ <;> (unfold World.cell?; first | (rw [e1]; rfl) | (rw [e2]; rfl))
    have HR : Hid (∀ w, Calls Tryz.prog 19 #[] w fun x w' => ∃ q, x = .returned (ptr q) ∧ w'.heap[q]? = some (.cells #[.slice none 0 0] 62) ∧ Below w.heap.size w w') := fun w => (reg_new w).mono fun x w' h => ⟨_, h.1, h.2.1, h.2.2⟩
    have s1 := HS.out w1 (Below.refl _ _)
    clear hb hp kb1 c0 c1 c2 c3 c4 hHC hle H1 H2 hlp hla
    go_wp2_with fail
    refine wp_region_last (S := fun w' => w'.cell? ⟨A0, 0, none⟩ = some (.int .i64 a) ∧ w'.cell? ⟨A0, 1, none⟩ = some (.int .i64 c) ∧ w'.cell? ⟨A0, 2, none⟩ = some (.int .i64 e) ∧ w'.cell? ⟨A0, 3, none⟩ = some (.int .i64 b) ∧ w'.cell? ⟨A0, 4, none⟩ = some (.int .i64 r) ∧ w'.cell? ⟨p, 0, none⟩ = some (.int .i64 c) ∧ w'.cell? ⟨p, 1, none⟩ = some (.int .i64 e) ∧ w'.cell? ⟨p, 2, none⟩ = some (.int .i64 b) ∧ w'.cell? ⟨p, 3, none⟩ = some (.int .i64 r) ∧ w'.cell? ⟨p, 4, none⟩ = some (.map (some m))) (n := 10) (by kernel_rfl) rfl (by kernel_rfl) (by kernel_rfl) ?_ (fun hHeld => ?_)
    · exact s1
    refine wpAnyH_take (i := 3) (v := ?_) rfl (by kernel_rfl) (by kernel_rfl) (by kernel_rfl) (fun _ _ _ h => h) (Or.inl ⟨by rfl, ?_⟩) (by assumption) ?_
    rotate_left
    · (intro w hSw; (try dsimp only at hSw); go_simp; try with_reducible rfl)
    try simp only [Act.put]
    try simp only [List.setIfInBounds_toArray]
    try simp only [List.set_cons_succ]
    try simp only [List.set_cons_zero]
    refine wpAnyH_take (i := 4) (v := ?_) rfl (by kernel_rfl) (by kernel_rfl) (by kernel_rfl) (fun _ _ _ h => h) (Or.inl ⟨by rfl, ?_⟩) (by assumption) ?_
    rotate_left
    · (intro w hSw; (try dsimp only at hSw); go_simp; try with_reducible rfl)
    try simp only [Act.put]
    try simp only [List.setIfInBounds_toArray]
    try simp only [List.set_cons_succ]
    try simp only [List.set_cons_zero]
    refine wpAnyH_take (i := 5) (v := ?_) rfl (by kernel_rfl) (by kernel_rfl) (by kernel_rfl) (fun _ _ _ h => h) (Or.inl ⟨by rfl, ?_⟩) (by assumption) ?_
    rotate_left
    · (intro w hSw; (try dsimp only at hSw); go_simp; try with_reducible rfl)
    try simp only [Act.put]
    try simp only [List.setIfInBounds_toArray]
    try simp only [List.set_cons_succ]
    try simp only [List.set_cons_zero]
    refine wpAnyH_take (i := 6) (v := ?_) rfl (by kernel_rfl) (by kernel_rfl) (by kernel_rfl) (fun _ _ _ h => h) (Or.inl ⟨by rfl, ?_⟩) (by assumption) ?_
    rotate_left
    · (intro w hSw; (try dsimp only at hSw); go_simp; try with_reducible rfl)
    try simp only [Act.put]
    try simp only [List.setIfInBounds_toArray]
    try simp only [List.set_cons_succ]
    try simp only [List.set_cons_zero]
    refine wpAnyH_ready (rs := [0]) (by kernel_rfl) (by simp) ?_
    refine AllReadyH.cons rfl (fun KK hK => ?_) AllReadyH.nil
    go_simp
    refine (HR.out _).mono ?_
    rintro _ w2 ⟨q, rfl, hk, hb⟩
    have hb2 : Below w1.heap.size w1 w2 := ⟨hb.os, hb.tape, hb.output, hb.size, hb.block⟩
    clear hb
    have s2 := HS.out w2 hb2
    have HB2 : Hid (Below A0 w w2) := HC.out.trans (hb2.mono (by have := HC.out.size; have := HB.out.size; omega))
    have g0 : w2.cell? ⟨q, 0, none⟩ = some (.slice none 0 0) := by unfold World.cell?; rw [hk]; rfl
    have hBw := hid hb2
    clear hb2 hk
    refine hK.out _ _ ?_ (fun hHeld2 => ?_)
    · exact s2
    clear hK hHeld
    try simp only [Act.put]
    try simp only [List.setIfInBounds_toArray]
    try simp only [List.set_cons_succ]
    try simp only [List.set_cons_zero]
    refine wpAnyH_take (i := 1) (v := ?_) rfl (by kernel_rfl) (by kernel_rfl) (by kernel_rfl) (fun _ _ _ h => h) (Or.inl ⟨by rfl, ?_⟩) (by assumption) ?_
    rotate_left
    · (intro w hSw; (try dsimp only at hSw); go_simp; try with_reducible rfl)
    try simp only [Act.put]
    try simp only [List.setIfInBounds_toArray]
    try simp only [List.set_cons_succ]
    try simp only [List.set_cons_zero]
    refine wpAnyH_ready (rs := [2]) (by kernel_rfl) (by simp) ?_
    refine AllReadyH.cons rfl (fun KK hK => ?_) AllReadyH.nil
    go_simp
    refine hK.out _ _ ?_ (fun hHeld3 => ?_)
    · exact s2
    clear hK hHeld2
    try simp only [Act.put]
    try simp only [List.setIfInBounds_toArray]
    try simp only [List.set_cons_succ]
    try simp only [List.set_cons_zero]
    refine wpAnyH_take (i := 7) (v := ?_) rfl (by kernel_rfl) (by kernel_rfl) (by kernel_rfl) (fun _ _ _ h => h) (Or.inl ⟨by rfl, ?_⟩) (by assumption) ?_
    rotate_left
    · (intro w hSw; (try dsimp only at hSw); go_simp; try with_reducible rfl)
    try simp only [Act.put]
    try simp only [List.setIfInBounds_toArray]
    try simp only [List.set_cons_succ]
    try simp only [List.set_cons_zero]
    refine wpAnyH_ready (rs := [8]) (by kernel_rfl) (by simp) ?_
    refine AllReadyH.cons rfl (fun KK hK => ?_) AllReadyH.nil
    go_simp
    have s3 : Below w1.heap.size w1 (w2.alloc (.cells #[.slice none 0 0, .int .i64 a, .int .i64 c, .int .i64 e, .int .i64 b, .int .i64 r, .int .i64 c, .int .i64 e, .int .i64 b, .int .i64 r, .map (some m), .slice none 0 0, .slice none 0 0] 69)) := hBw.out.alloc hBw.out.size _
    have s4 := HS.out _ s3
    refine hK.out _ _ ?_ (fun hHeld4 => ?_)
    · exact s4
    clear hK hHeld3
    try simp only [Act.put]
    try simp only [List.setIfInBounds_toArray]
    try simp only [List.set_cons_succ]
    try simp only [List.set_cons_zero]
    refine wpAnyH_take (i := 9) (v := ?_) rfl (by kernel_rfl) (by kernel_rfl) (by kernel_rfl) (fun _ _ _ h => h) (Or.inl ⟨by rfl, ?_⟩) (by assumption) ?_
    rotate_left
    · (intro w hSw; (try dsimp only at hSw); go_simp; try with_reducible rfl)
    try simp only [Act.put]
    try simp only [List.setIfInBounds_toArray]
    try simp only [List.set_cons_succ]
    try simp only [List.set_cons_zero]
    refine wpAnyH_done (by kernel_rfl) ?_ _
    refine LastQ.done ?_
    refine wpOp_step (i := 10) rfl (fun KK hK => ?_)
    have HK := hid hK
    clear hK
    go_simp
    refine HK.out _ _ ?_
    clear HK
    have HF : Hid (Below A0 w (w2.alloc (.cells #[.slice none 0 0, .int .i64 a, .int .i64 c, .int .i64 e, .int .i64 b, .int .i64 r, .int .i64 c, .int .i64 e, .int .i64 b, .int .i64 r, .map (some m), .slice none 0 0, .slice none 0 0] 69))) := HB2.out.alloc (by have := HC.out.size; have := HB.out.size; have := hBw.out.size; omega) _
    go_wp2
    go_ret2
    exact ⟨_, rfl, ⟨_, rfl⟩, HF.out⟩
end Go.Proofs.YtedbjceeakmjgaaGreatDoor
