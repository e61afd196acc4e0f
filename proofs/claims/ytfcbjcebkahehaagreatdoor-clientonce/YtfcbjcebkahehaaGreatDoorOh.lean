/- ClientOnce: its walk. -/
import Derived.Test.YtfcbjcebkahehaaGreatDoorZbx
import Derived.Test.YtfcbjcebkahehaaGreatDoorZbg
import Derived.Test.YtfcbjcebkahehaaGreatDoorZby
namespace Go.Proofs.YtfcbjcebkahehaaGreatDoor.Cl
open Go.RowKit
theorem bld23o (a b : Int) (w : World) : (Instr.build 23 #[(0, .int .i64 a), (2, .int .i64 b)]).run Tryz.prog w = .ok (.agg #[.int .i64 a, .int .i64 0, .int .i64 b]) w := by kernel_rfl
theorem bld28o (r a b d : Int) (w : World) : (Instr.build 28 #[(0, .int .i64 65537), (1, .int .i64 5), (2, .int .i64 9), (3, .int .i64 r), (4, .agg #[.int .i64 a, .int .i64 b, .int .i64 d])]).run Tryz.prog w = .ok (.agg #[.int .i64 65537, .int .i64 5, .int .i64 9, .int .i64 r, .int .i64 a, .int .i64 b, .int .i64 d, .int .i64 0, .string ⟨#[]⟩, .int .i64 0, .int .i64 0, .slice none 0 0]) w := by kernel_rfl
theorem bld63o (p : Nat) (w : World) : (Instr.build 63 #[(0, ptr p)]).run Tryz.prog w = .ok (.agg #[ptr p, .slice none 0 0, .int .i64 0, .int .i64 0]) w := by kernel_rfl
theorem once_long (a b d e : Int) (o : Option Addr) (n cap : Nat) (w : World) (h : (33554431 : Int) < n) : Calls Tryz.prog 5 #[.int .i64 a, .int .i64 b, .int .i64 d, .int .i64 e, .slice o n cap] w fun e w' => e = .returned (.bool true) ∧ w' = w := by
  go_enter Tryz.func5, Tryz.ntmps5
  go_wp2
  go_ret
  exact ⟨rfl, rfl⟩
/-- a life, from a world on -/
def LifeAt (W w : World) (p xb : Nat) (c : Cf) (j : Nat) : Prop := ∃ K oa cap next now L vw vd q vi I n1 n2, LF K w W.heap.size 1 p xb c oa cap next now L [] vw vd q vi I n1 n2 ∧ I.length ≤ j ∧ now ≤ j ∧ Mv (fun u => 1 ≤ u) W w (fun _ => 0) K
theorem LifeAt.below {W w : World} {p xb : Nat} {c : Cf} {j : Nat} (h : LifeAt W w p xb c j) : Below W.heap.size W w := by
  obtain ⟨K, oa, cap, next, now, L, vw, vd, q, vi, I, n1, n2, F, a, b, M⟩ := h
  exact ⟨M.os, M.tape, M.output, M.size, fun b hb => M.kept b hb (by omega)⟩
/-- one round -/
theorem LifeAt.round {W w : World} {p xb : Nat} {c : Cf} {j : Nat} (h : LifeAt W w p xb c j) (hj : j < 33554432) (kind N : Int) (s : ByteArray) (hN : -9223372036854775808 ≤ N ∧ N ≤ 9223372036854775807) (hs : s.size ≤ 281474976710656) :
    Calls Tryz.prog 15 #[ptr xb, .agg #[.int .i64 kind, .int .i64 N, .string s], .agg #[.int .i64 c.pb, .int .i64 c.pc, .int .i64 c.pt], .int .i64 c.win] w.drew fun e w' => e = .returned (.bool true) ∧ Hid (Below W.heap.size W w' ∧
      Calls Tryz.prog 16 #[ptr xb, .agg #[.int .i64 c.pb, .int .i64 c.pc, .int .i64 c.pt]] w' fun e w2 => e = .returned (.bool true) ∧ Hid (Below W.heap.size W w2 ∧
        Calls Tryz.prog 17 #[ptr xb, .agg #[.int .i64 c.pb, .int .i64 c.pc, .int .i64 c.pt], .int .i64 c.win] w2 fun e w3 => e = .returned (.bool true) ∧ Hid (LifeAt W w3 p xb c (j + 1)))) := by
  obtain ⟨K, oa, cap, next, now, L, vw, vd, q, vi, I, n1, n2, F, hI, hn, M⟩ := h
  have md : Mv (fun _ => False) w w.drew K K := Mv.drew _ w K
  have FD := F.to md (fun _ e => e.elim)
  have MD := M.trans (md.mono (fun _ e => e.elim))
  have hbe : ∀ {w' : World} {K' : Nat → Nat}, Mv (fun u => 1 ≤ u) W w' (fun _ => 0) K' → Below W.heap.size W w' := fun m => ⟨m.os, m.tape, m.output, m.size, fun b hb => m.kept b hb (by omega)⟩
  refine (FD.acts_any kind N s hN (by omega) (by omega) hs).mono ?_
  rintro e w1 ⟨he, hh⟩
  obtain ⟨K1, next1, now1, L1, D1, vw1, vd1, q1, vi1, I1, m1', F1, ⟨b1, b2, b3⟩, M1⟩ := hh.out
  have MM1 := MD.trans M1
  refine ⟨he, hbe MM1, ?_⟩
  refine (F1.ends_any (by omega)).mono ?_
  rintro e w2 ⟨he, hh⟩
  obtain ⟨K2, vd2, I2, F2, e2, M2⟩ := hh.out
  have MM2 := MM1.trans M2
  refine ⟨he, hbe MM2, ?_⟩
  refine F2.stands_any.mono ?_
  rintro e w3 ⟨he, hh⟩
  obtain ⟨K3, F3, M3⟩ := hh.out
  exact ⟨he, K3, _, _, _, _, _, _, _, _, _, I2, _, _, F3, by rw [e2]; omega, by omega, MM2.trans M3⟩
set_option maxRecDepth 8000 in
set_option maxHeartbeats 8000000 in
theorem once_any (base most tries window : Int) (o : Option Addr) (n cap : Nat) (A : Nat → Int × Int × ByteArray) (w : World) (hT : ErrT w) (hA : ActsAt w o n A) (h1 : -9223372036854775808 ≤ base ∧ base ≤ 9223372036854775807) (h2 : -9223372036854775808 ≤ most ∧ most ≤ 9223372036854775807) (h3 : -9223372036854775808 ≤ tries ∧ tries ≤ 9223372036854775807) (h4 : -9223372036854775808 ≤ window ∧ window ≤ 9223372036854775807) (hs : n ≤ 33554431) :
    Calls Tryz.prog 5 #[.int .i64 base, .int .i64 most, .int .i64 tries, .int .i64 window, .slice o n cap] w fun e w' => e = .returned (.bool true) ∧ Below w.heap.size w w' := by
  obtain ⟨kb, hkb⟩ : ∃ kb, pickV base 5 = kb := ⟨_, rfl⟩
  obtain ⟨km, hkm⟩ : ∃ km, pickV most 20 = km := ⟨_, rfl⟩
  obtain ⟨kt, hkt⟩ : ∃ kt, pickV tries 5 = kt := ⟨_, rfl⟩
  obtain ⟨kw, hkw⟩ : ∃ kw, pickV window 6 = kw := ⟨_, rfl⟩
  have p1 := pickV_in base (n := 5) (by omega)
  have p2 := pickV_in most (n := 20) (by omega)
  have p3 := pickV_in tries (n := 5) (by omega)
  have p4 := pickV_in window (n := 6) (by omega)
  rw [hkb] at p1
  rw [hkm] at p2
  rw [hkt] at p3
  rw [hkw] at p4
  have HPb : Hid (∀ w, Calls Tryz.prog 10 #[.int .i64 base, .int .i64 5] w fun e w' => e = .returned (.int .i64 kb) ∧ w' = w) := fun w => by rw [← hkb]; exact pickv_any base 5 h1 (by omega) w
  have HPm : Hid (∀ w, Calls Tryz.prog 10 #[.int .i64 most, .int .i64 20] w fun e w' => e = .returned (.int .i64 km) ∧ w' = w) := fun w => by rw [← hkm]; exact pickv_any most 20 h2 (by omega) w
  have HPt : Hid (∀ w, Calls Tryz.prog 10 #[.int .i64 tries, .int .i64 5] w fun e w' => e = .returned (.int .i64 kt) ∧ w' = w) := fun w => by rw [← hkt]; exact pickv_any tries 5 h3 (by omega) w
  have HPw : Hid (∀ w, Calls Tryz.prog 10 #[.int .i64 window, .int .i64 6] w fun e w' => e = .returned (.int .i64 kw) ∧ w' = w) := fun w => by rw [← hkw]; exact pickv_any window 6 h4 (by omega) w
  obtain ⟨pb, hpb⟩ : ∃ pb, 1 + kb = pb := ⟨_, rfl⟩
  obtain ⟨pt, hpt⟩ : ∃ pt, 1 + kt = pt := ⟨_, rfl⟩
  obtain ⟨pc, hpc⟩ : ∃ pc, pb + km = pc := ⟨_, rfl⟩
  obtain ⟨rm, hrm⟩ : ∃ rm, 1 + kw = rm := ⟨_, rfl⟩
  have q1 : -9223372036854775808 ≤ 1 + kb ∧ 1 + kb ≤ 9223372036854775807 := by omega
  have q2 : -9223372036854775808 ≤ 1 + kt ∧ 1 + kt ≤ 9223372036854775807 := by omega
  have q3 : -9223372036854775808 ≤ pb + km ∧ pb + km ≤ 9223372036854775807 := by omega
  have q4 : -9223372036854775808 ≤ 1 + kw ∧ 1 + kw ≤ 9223372036854775807 := by omega
  obtain ⟨c, hcd⟩ : ∃ c : Cf, c = ⟨65537, 5, 9, rm, pb, pc, pt, ⟨0, [], 0, 0, []⟩⟩ := ⟨_, rfl⟩
  have hc : OnC c := by subst hcd; exact ⟨rfl, rfl, rfl, by show 1 ≤ rm; omega, by show rm ≤ 6; omega, by show 1 ≤ pb; omega, by show pb ≤ 5; omega, by show pb ≤ pc; omega, by show pc ≤ 24; omega, by show 1 ≤ pt; omega, by show pt ≤ 5; omega, rfl⟩
  have hce : c.pb = pb ∧ c.pc = pc ∧ c.pt = pt ∧ c.win = rm ∧ c.first = 9 := by subst hcd; exact ⟨rfl, rfl, rfl, rfl, rfl⟩
  have hnB : Hid (n ≤ 33554431) := hs
  have hnl : ¬ ((33554431 : Int) < (n : Int)) := by omega
  have hnd : decide ((33554431 : Int) < (n : Int)) = false := decide_eq_false hnl
  have hl1 : 1 < w.heap.size := World.block_lt_of_cell? _ _ hT
  have HAw := hid (awake_any w hT)
  have HE : Hid (∀ w', Below w.heap.size w w' → ErrT w') := fun w' h => (World.cell?_of_block (a := ⟨1, 0, none⟩) (h.block 1 hl1)).trans hT
  have HAc := hid hA
  have HC := hid (And.intro hc hce)
  have HNew : Hid (∀ w', ErrT w' → Calls Tryz.prog 14 #[.agg #[.int .i64 65537, .int .i64 5, .int .i64 9, .int .i64 rm, .int .i64 pb, .int .i64 pc, .int .i64 pt, .int .i64 0, .string ⟨#[]⟩, .int .i64 0, .int .i64 0, .slice none 0 0]] w' fun e w'' => ∃ p, e = .returned (.tuple #[ptr p, .int .i64 0]) ∧ NewC w' w'' c p) := fun w' ht => by
    have hok := hc.ok
    have := new_any c none 0 w' ht (by rw [hc.sys]; exact fun h => absurd h (by decide)) (by rw [hc.sys]; decide) (by rw [hc.sys]; decide) (fun _ e => by cases e) (by rw [hc.sys]; decide)
    have e : cfA c none 0 = #[.int .i64 65537, .int .i64 5, .int .i64 9, .int .i64 rm, .int .i64 pb, .int .i64 pc, .int .i64 pt, .int .i64 0, .string ⟨#[]⟩, .int .i64 0, .int .i64 0, .slice none 0 0] := by rw [hcd]; rfl
    rw [e] at this
    refine this.mono ?_
    rintro e w'' (⟨h, _⟩ | ⟨_, h⟩)
    · rw [hok] at h; cases h
    · exact h
  have HW : Hid (wrap64 (1 + kb) = pb ∧ wrap64 (1 + kt) = pt ∧ wrap64 (pb + km) = pc ∧ wrap64 (1 + kw) = rm) := ⟨by rw [wrap_in q1, hpb], by rw [wrap_in q2, hpt], by rw [wrap_in q3, hpc], by rw [wrap_in q4, hrm]⟩
  have hb23 := fun a b w => bld23o a b w
  have hb28 := fun r a b d w => bld28o r a b d w
  have hb63 := fun p w => bld63o p w
  obtain ⟨v1, v2, v3, v4⟩ := HW.out
  have v3' : IntKind.i64.wrap (pb + km) = pc := by rw [IntWalk.i64_left]; exact v3
  clear hkb hkm hkt hkw p1 p2 p3 p4 hpb hpt hpc hrm q1 q2 q3 q4 hcd hc hce hs hnl hl1 hT hA h1 h2 h3 h4 HW
  go_enter Tryz.func5, Tryz.ntmps5
  go_wp2_with fail
  refine HAw.out.mono ?_
  rintro _ w1 ⟨rfl, hb1⟩
  have HB1 := hid hb1
  clear HAw hb1
  go_wp2_with fail
  refine (HPb.out _).mono ?_
  rintro _ vv ⟨rfl, hvv⟩
  rw [hvv]
  clear hvv vv
  clear HPb
  obtain ⟨S, hS⟩ : ∃ y, w1.heap.size = y := ⟨_, rfl⟩
  obtain ⟨y0, hy0⟩ : ∃ y, w1.alloc (.cells #[.int .i64 0, .int .i64 0, .int .i64 0] 23) = y := ⟨_, rfl⟩
  have ky0 : y0.heap[S]? = some (.cells #[.int .i64 0, .int .i64 0, .int .i64 0] 23) := by rw [← hy0, ← hS]; exact (MapKept.heap_alloc w1 _).1
  have By0 : Below w1.heap.size w1 y0 := by rw [← hy0]; exact (Below.refl _ _).alloc (Nat.le_refl _) _
  have hley : w1.heap.size ≤ S := by omega
  obtain ⟨y1, hy1⟩ : ∃ y, y0.setCell ⟨S, 0, none⟩ (.int .i64 pb) = y := ⟨_, rfl⟩
  have zy0 : y0.cell? ⟨S, 0, none⟩ = some (.int .i64 0) := cell_at ky0 rfl
  have fy0 : y0.frozen? ⟨S, 0, none⟩ = false := frozen_at ky0 0
  have ky1 : y1.heap[S]? = some (.cells #[.int .i64 pb, .int .i64 0, .int .i64 0] 23) := by rw [← hy1]; exact set_at ky0 0 _
  have By1 : Below w1.heap.size w1 y1 := by rw [← hy1]; exact below_set By0 hley
  obtain ⟨y2, hy2⟩ : ∃ y, y1.setCell ⟨S, 1, none⟩ (.int .i64 0) = y := ⟨_, rfl⟩
  have zy1 : y1.cell? ⟨S, 1, none⟩ = some (.int .i64 0) := cell_at ky1 rfl
  have fy1 : y1.frozen? ⟨S, 1, none⟩ = false := frozen_at ky1 1
  have ky2 : y2.heap[S]? = some (.cells #[.int .i64 pb, .int .i64 0, .int .i64 0] 23) := by rw [← hy2]; exact set_at ky1 1 _
  have By2 : Below w1.heap.size w1 y2 := by rw [← hy2]; exact below_set By1 hley
  clear ky1 By1
  obtain ⟨w2, hw2⟩ : ∃ y, y2.setCell ⟨S, 2, none⟩ (.int .i64 pt) = y := ⟨_, rfl⟩
  have zy2 : y2.cell? ⟨S, 2, none⟩ = some (.int .i64 0) := cell_at ky2 rfl
  have fy2 : y2.frozen? ⟨S, 2, none⟩ = false := frozen_at ky2 2
  have kw2 : w2.heap[S]? = some (.cells #[.int .i64 pb, .int .i64 0, .int .i64 pt] 23) := by rw [← hw2]; exact set_at ky2 2 _
  have Bw2 : Below w1.heap.size w1 w2 := by rw [← hw2]; exact below_set By2 hley
  clear ky2 By2
  clear ky0 By0 hley
  have c0 : w2.cell? ⟨S, 0, none⟩ = some (.int .i64 pb) := cell_at kw2 rfl
  have s0 : w2.drew.cell? ⟨S, 0, none⟩ = some (.int .i64 pb) := cell_at (w := w2) kw2 rfl
  have c1 : w2.drew.cell? ⟨S, 1, none⟩ = some (.int .i64 0) := cell_at (w := w2) kw2 rfl
  have f1 : w2.drew.frozen? ⟨S, 1, none⟩ = false := frozen_at (w := w2) kw2 1
  obtain ⟨w3, hw3⟩ : ∃ y, w2.drew.setCell ⟨S, 1, none⟩ (.int .i64 pc) = y := ⟨_, rfl⟩
  have k3 : w3.heap[S]? = some (.cells #[.int .i64 pb, .int .i64 pc, .int .i64 pt] 23) := by rw [← hw3]; exact set_at (w := w2.drew) kw2 1 _
  have HB3 : Hid (Below w.heap.size w w3) := by
    have hb2 : Below w.heap.size w w2 := HB1.out.trans (Bw2.mono HB1.out.size)
    have hle : w.heap.size ≤ S := by have := HB1.out.size; omega
    rw [← hw3]
    exact below_set (hb2.trans (⟨rfl, rfl, rfl, Nat.le_refl _, fun _ _ => rfl⟩)) hle
  clear kw2 Bw2
  go_wp2_with fail
  refine (HPt.out _).mono ?_
  rintro _ vv ⟨rfl, hvv⟩
  rw [hvv]
  clear hvv vv
  clear HPt
  go_wp2_with fail
  refine wp_region_last (S := fun w' => w'.cell? ⟨S, 0, none⟩ = some (.int .i64 pb)) (n := 6) (by kernel_rfl) rfl (by kernel_rfl) (by kernel_rfl) ?_ (fun hHeldA => ?_)
  · exact s0
  refine wpAnyH_take (i := 0) (v := ?_) rfl (by kernel_rfl) (by kernel_rfl) (by kernel_rfl) (fun _ _ _ h => h) (Or.inl ⟨by rfl, ?_⟩) (by assumption) ?_
  rotate_left
  · (intro w hSw; (try dsimp only at hSw); go_simp; try with_reducible rfl)
  try simp only [Act.put]
  try simp only [List.setIfInBounds_toArray]
  try simp only [List.set_cons_succ]
  try simp only [List.set_cons_zero]
  refine wpAnyH_take (i := 1) (v := ?_) rfl (by kernel_rfl) (by kernel_rfl) (by kernel_rfl) (fun _ _ _ h => h) (Or.inl ⟨by rfl, ?_⟩) (by assumption) ?_
  rotate_left
  · (intro w hSw; (try dsimp only at hSw); go_simp; try with_reducible rfl)
  try simp only [Act.put]
  try simp only [List.setIfInBounds_toArray]
  try simp only [List.set_cons_succ]
  try simp only [List.set_cons_zero]
  refine wpAnyH_take (i := 2) (v := ?_) rfl (by kernel_rfl) (by kernel_rfl) (by kernel_rfl) (fun _ _ _ h => h) (Or.inl ⟨by rfl, ?_⟩) (by assumption) ?_
  rotate_left
  · (intro w hSw; (try dsimp only at hSw); go_simp; try with_reducible rfl)
  try simp only [Act.put]
  try simp only [List.setIfInBounds_toArray]
  try simp only [List.set_cons_succ]
  try simp only [List.set_cons_zero]
  refine wpAnyH_ready (rs := [3]) (by kernel_rfl) (by simp) ?_
  refine AllReadyH.cons rfl (fun KK hK => ?_) AllReadyH.nil
  go_simp
  refine (HPm.out _).mono ?_
  rintro _ _ ⟨rfl, rfl⟩
  refine hK.out _ _ ?_ (fun hHeldZ => ?_)
  · exact s0
  clear hK hHeldA
  try simp only [Act.put]
  try simp only [List.setIfInBounds_toArray]
  try simp only [List.set_cons_succ]
  try simp only [List.set_cons_zero]
  refine wpAnyH_take (i := 4) (v := ?_) rfl (by kernel_rfl) (by kernel_rfl) (by kernel_rfl) (fun _ _ _ h => h) (Or.inl ⟨by rfl, ?_⟩) (by assumption) ?_
  rotate_left
  · (intro w hSw; (try dsimp only at hSw); go_simp; try with_reducible rfl)
  try simp only [Act.put]
  try simp only [List.setIfInBounds_toArray]
  try simp only [List.set_cons_succ]
  try simp only [List.set_cons_zero]
  refine wpAnyH_take (i := 5) (v := ?_) rfl (by kernel_rfl) (by kernel_rfl) (by kernel_rfl) (fun _ _ _ h => h) (Or.inl ⟨by rfl, ?_⟩) (by assumption) ?_
  rotate_left
  · (intro w hSw; (try dsimp only at hSw); go_simp; try with_reducible rfl)
  try simp only [Act.put]
  try simp only [List.setIfInBounds_toArray]
  try simp only [List.set_cons_succ]
  try simp only [List.set_cons_zero]
  refine wpAnyH_done (by kernel_rfl) ?_ _
  refine LastQ.done ?_
  refine wpOp_step (i := 6) rfl (fun KK hK => ?_)
  have HK := hid hK
  clear hK
  go_simp
  refine HK.out _ _ ?_
  clear HK
  clear s0 c0 c1 f1 hHeldZ hw3 HPm
  have d0 : w3.cell? ⟨S, 0, none⟩ = some (.int .i64 pb) := cell_at k3 rfl
  have d1 : w3.cell? ⟨S, 1, none⟩ = some (.int .i64 pc) := cell_at k3 rfl
  have d2 : w3.cell? ⟨S, 2, none⟩ = some (.int .i64 pt) := cell_at k3 rfl
  go_wp2_with fail
  refine (HPw.out _).mono ?_
  rintro _ vv ⟨rfl, hvv⟩
  rw [hvv]
  clear hvv vv
  clear HPw
  have HN3 := hid (HNew.out w3 (HE.out w3 HB3.out))
  go_wp2_with fail
  refine HN3.out.mono ?_
  rintro _ w4 ⟨p, rfl, hN⟩
  obtain ⟨xb, hxb⟩ : ∃ y, w4.heap.size = y := ⟨_, rfl⟩
  obtain ⟨w5, hw5⟩ : ∃ y, w4.alloc (.cells #[ptr p, .slice none 0 0, .int .i64 0, .int .i64 0] 63) = y := ⟨_, rfl⟩
  have hLA : Hid (LifeAt w3 w5 p xb c 0) := by
    have hT3 := HE.out w3 HB3.out
    have hl3 : 1 < w3.heap.size := World.block_lt_of_cell? _ _ hT3
    obtain ⟨K, q, oa, cap, P, m⟩ := NewC.pc hN (fun _ => 0) w3.heap.size 1 (Nat.le_refl _) hl3 (fun _ _ => Nat.zero_lt_one) HC.out.1.ok hT3
    have b5 : Below w4.heap.size w4 w5 := by rw [← hw5]; exact (Below.refl _ _).alloc (Nat.le_refl _) _
    have m5 := Mv.of_below b5 K (fun _ => 1 + 20)
    have k5 : w5.heap[xb]? = some (lfB p (.slice none 0 0) 0 0) := by rw [← hw5, ← hxb]; exact (MapKept.heap_alloc w4 _).1
    have P5 := P.to m5 (fun _ e => e.elim)
    rw [HC.out.2.2.2.2.2] at P5
    exact ⟨_, oa, cap, 9, 0, [], _, _, q, .slice none 0 0, [], 0, 0, ⟨P5, ⟨k5, ext_new (Nat.le_of_eq hxb)⟩, RW.nil _ _ _ _ _ _ _, OM.start c, HC.out.1, by simp, by omega⟩, by simp, by simp, (m.mono (fun _ e => e.elim)).trans (m5.mono (fun _ e => e.elim))⟩
  have HK3 : Hid (w3.heap[S]? = some (.cells #[.int .i64 pb, .int .i64 pc, .int .i64 pt] 23)) := k3
  have HA3 := hid (HAc.out.below HB3.out)
  obtain ⟨b44, hb44⟩ : ∃ b : Prop, b = True := ⟨_, rfl⟩
  have d0' : w4.cell? ⟨S, 0, none⟩ = some (.int .i64 pb) := cell_at ((hN.be.block S (Array.getElem?_eq_some_iff.1 k3).1).trans k3) rfl
  clear d0 d1 d2 HN3 HNew hN k3 HAc HE HB1 b44 hb44 d0' v1 v2 v3 v3'
  have HV4 : Hid (wrap64 (1 + kw) = rm) := v4
  clear v4
  go_wp2_with fail
  go_loopw [17] (fun u17 wr => ∃ (j : Nat), u17 = .int .i64 (j : Int) ∧ j ≤ n ∧ Hid (LifeAt w3 wr p xb c j)) (fun u17 _ => n - (intOf u17).toNat)
  case atStart => exact ⟨0, rfl, by omega, hLA.out⟩
  case round =>
    obtain ⟨j, rfl, hjn, HR⟩ := hrel
    clear hLA
    obtain ⟨wo, hwo⟩ : ∃ yy, yy = wr := ⟨_, rfl⟩
    subst hwo
    by_cases hj : j < n
    · have hji : (j : Int) < (n : Int) := by omega
      obtain ⟨g, off, rfl, hgl, hcells⟩ := HA3.out.at_ (by omega)
      obtain ⟨e1, e2, e3⟩ := hcells j hj
      obtain ⟨hok1, hok2⟩ := HA3.out.ok j hj
      obtain ⟨kd, hkd⟩ : ∃ kd, (A j).1 = kd := ⟨_, rfl⟩
      obtain ⟨nd, hnd2⟩ : ∃ nd, (A j).2.1 = nd := ⟨_, rfl⟩
      obtain ⟨sd, hsd⟩ : ∃ sd, (A j).2.2 = sd := ⟨_, rfl⟩
      rw [hkd] at e1
      rw [hnd2] at e2 hok1
      rw [hsd] at e3 hok2
      have hSl := (Array.getElem?_eq_some_iff.1 HK3.out).1
      have HS : Hid (∀ w', Below w3.heap.size w3 w' → w'.cell? ⟨g, off + j * 3, none⟩ = some (.int .i64 kd) ∧ w'.cell? ⟨g, off + j * 3 + 1, none⟩ = some (.int .i64 nd) ∧ w'.cell? ⟨g, off + j * 3 + 2, none⟩ = some (.string sd) ∧ w'.cell? ⟨S, 0, none⟩ = some (.int .i64 pb) ∧ w'.cell? ⟨S, 1, none⟩ = some (.int .i64 pc) ∧ w'.cell? ⟨S, 2, none⟩ = some (.int .i64 pt)) := fun w' hb => ⟨(World.cell?_of_block (a := ⟨g, off + j * 3, none⟩) (hb.block g hgl)).trans e1, (World.cell?_of_block (a := ⟨g, off + j * 3 + 1, none⟩) (hb.block g hgl)).trans e2, (World.cell?_of_block (a := ⟨g, off + j * 3 + 2, none⟩) (hb.block g hgl)).trans e3, cell_at ((hb.block S hSl).trans HK3.out) rfl, cell_at ((hb.block S hSl).trans HK3.out) rfl, cell_at ((hb.block S hSl).trans HK3.out) rfl⟩
      have hbo := HR.out.below
      have s0 : wo.drew.cell? ⟨g, off + j * 3, none⟩ = some (.int .i64 kd) ∧ wo.drew.cell? ⟨g, off + j * 3 + 1, none⟩ = some (.int .i64 nd) ∧ wo.drew.cell? ⟨g, off + j * 3 + 2, none⟩ = some (.string sd) ∧ wo.drew.cell? ⟨S, 0, none⟩ = some (.int .i64 pb) ∧ wo.drew.cell? ⟨S, 1, none⟩ = some (.int .i64 pc) ∧ wo.drew.cell? ⟨S, 2, none⟩ = some (.int .i64 pt) := HS.out wo.drew ⟨hbo.os, hbo.tape, hbo.output, hbo.size, hbo.block⟩
      have hrd := HR.out.round (by have := hnB.out; omega) kd nd sd hok1 hok2
      rw [HC.out.2.1, HC.out.2.2.1, HC.out.2.2.2.1, HC.out.2.2.2.2.1.trans HV4.out.symm] at hrd
      have HRd := hid hrd
      have hjB : j ≤ 100000000000 := by have := hnB.out; omega
      have hj0 : (0 : Int) ≤ (j : Int) := Int.natCast_nonneg j
      have hj1 : wrap64 ((j : Int) + 1) = (j : Int) + 1 := wrapS hjB
      have HJ := hid hj
      clear e1 e2 e3 hok1 hok2 hkd hnd2 hsd hSl hbo hrd HR hcells hgl hjB hjn hj
      go_wp2_with fail
      refine wp_region_last (S := fun w' => w'.cell? ⟨g, off + j * 3, none⟩ = some (.int .i64 kd) ∧ w'.cell? ⟨g, off + j * 3 + 1, none⟩ = some (.int .i64 nd) ∧ w'.cell? ⟨g, off + j * 3 + 2, none⟩ = some (.string sd) ∧ w'.cell? ⟨S, 0, none⟩ = some (.int .i64 pb) ∧ w'.cell? ⟨S, 1, none⟩ = some (.int .i64 pc) ∧ w'.cell? ⟨S, 2, none⟩ = some (.int .i64 pt)) (n := 8) (by kernel_rfl) rfl (by kernel_rfl) (by kernel_rfl) ?_ (fun hHeldX => ?_)
      · exact s0
      refine wpAnyH_take (i := 0) (v := ?_) rfl (by kernel_rfl) (by kernel_rfl) (by kernel_rfl) (fun _ _ _ h => h) (Or.inl ⟨by rfl, ?_⟩) (by assumption) ?_
      rotate_left
      · (intro w hSw; (try dsimp only at hSw); go_simp; try with_reducible rfl)
      try simp only [Act.put]
      try simp only [List.setIfInBounds_toArray]
      try simp only [List.set_cons_succ]
      try simp only [List.set_cons_zero]
      refine wpAnyH_take (i := 1) (v := ?_) rfl (by kernel_rfl) (by kernel_rfl) (by kernel_rfl) (fun _ _ _ h => h) (Or.inl ⟨by rfl, ?_⟩) (by assumption) ?_
      rotate_left
      · (intro w hSw; (try dsimp only at hSw); go_simp; try with_reducible rfl)
      try simp only [Act.put]
      try simp only [List.setIfInBounds_toArray]
      try simp only [List.set_cons_succ]
      try simp only [List.set_cons_zero]
      refine wpAnyH_take (i := 2) (v := ?_) rfl (by kernel_rfl) (by kernel_rfl) (by kernel_rfl) (fun _ _ _ h => h) (Or.inl ⟨by rfl, ?_⟩) (by assumption) ?_
      rotate_left
      · (intro w hSw; (try dsimp only at hSw); go_simp; try with_reducible rfl)
      try simp only [Act.put]
      try simp only [List.setIfInBounds_toArray]
      try simp only [List.set_cons_succ]
      try simp only [List.set_cons_zero]
      refine wpAnyH_take (i := 3) (v := ?_) rfl (by kernel_rfl) (by kernel_rfl) (by kernel_rfl) (fun _ _ _ h => h) (Or.inl ⟨by rfl, ?_⟩) (by assumption) ?_
      rotate_left
      · (intro w hSw; (try dsimp only at hSw); go_simp; try with_reducible rfl)
      try simp only [Act.put]
      try simp only [List.setIfInBounds_toArray]
      try simp only [List.set_cons_succ]
      try simp only [List.set_cons_zero]
      refine wpAnyH_take (i := 4) (v := ?_) rfl (by kernel_rfl) (by kernel_rfl) (by kernel_rfl) (fun _ _ _ h => h) (Or.inl ⟨by rfl, ?_⟩) (by assumption) ?_
      rotate_left
      · (intro w hSw; (try dsimp only at hSw); go_simp; try with_reducible rfl)
      try simp only [Act.put]
      try simp only [List.setIfInBounds_toArray]
      try simp only [List.set_cons_succ]
      try simp only [List.set_cons_zero]
      refine wpAnyH_take (i := 5) (v := ?_) rfl (by kernel_rfl) (by kernel_rfl) (by kernel_rfl) (fun _ _ _ h => h) (Or.inl ⟨by rfl, ?_⟩) (by assumption) ?_
      rotate_left
      · (intro w hSw; (try dsimp only at hSw); go_simp; try with_reducible rfl)
      try simp only [Act.put]
      try simp only [List.setIfInBounds_toArray]
      try simp only [List.set_cons_succ]
      try simp only [List.set_cons_zero]
      refine wpAnyH_take (i := 6) (v := ?_) rfl (by kernel_rfl) (by kernel_rfl) (by kernel_rfl) (fun _ _ _ h => h) (Or.inl ⟨by rfl, ?_⟩) (by assumption) ?_
      rotate_left
      · (intro w hSw; (try dsimp only at hSw); go_simp; try with_reducible rfl)
      try simp only [Act.put]
      try simp only [List.setIfInBounds_toArray]
      try simp only [List.set_cons_succ]
      try simp only [List.set_cons_zero]
      refine wpAnyH_ready (rs := [7]) (by kernel_rfl) (by simp) ?_
      refine AllReadyH.cons rfl (fun KK hK => ?_) AllReadyH.nil
      go_simp
      refine HRd.out.mono ?_
      rintro _ w7 ⟨rfl, h7⟩
      have H7 := hid h7.out
      have s7 := HS.out w7 H7.out.1
      clear HRd h7
      refine hK.out _ _ ?_ (fun hHeldY => ?_)
      · exact s7
      clear hK hHeldX
      try simp only [Act.put]
      try simp only [List.setIfInBounds_toArray]
      try simp only [List.set_cons_succ]
      try simp only [List.set_cons_zero]
      refine wpAnyH_done (by kernel_rfl) ?_ _
      refine LastQ.done ?_
      refine wpOp_step (i := 8) rfl (fun KK hK => ?_)
      have HK := hid hK
      clear hK
      go_simp
      refine HK.out _ _ ?_
      clear HK
      clear s0 hHeldY
      obtain ⟨_, _, _, t0, t1, t2⟩ := s7
      go_wp2_with fail
      refine H7.out.2.mono ?_
      rintro _ w8 ⟨rfl, h8⟩
      have H8 := hid h8.out
      obtain ⟨_, _, _, t0, t1, t2⟩ := HS.out w8 H8.out.1
      clear h8 H7
      go_wp2_with fail
      refine H8.out.2.mono ?_
      rintro _ w9 ⟨rfl, h9⟩
      clear H8
      go_wp2
      go_roundw
      case rel => exact ⟨j + 1, by first | (simp; done) | (rw [hj1]; simp), HJ.out, h9.out⟩
      case measure => exact meas (by first | rfl | exact hj1) hji
    · obtain rfl : j = n := by omega
      have HF : Hid (Below w.heap.size w wo) := HB3.out.trans (HR.out.below.mono HB3.out.size)
      clear HR hj
      go_wp2
      go_ret
      exact ⟨rfl, HF.out⟩
end Go.Proofs.YtfcbjcebkahehaaGreatDoor.Cl
