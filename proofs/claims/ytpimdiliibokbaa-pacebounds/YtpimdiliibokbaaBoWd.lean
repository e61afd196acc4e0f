/- awake. -/
import Derived.Test.YtpimdiliibokbaaBoWc
namespace Go.Proofs.Ytpimdiliibokbaa
open Go.RowKit Ieee
theorem Own.below {A B : Nat} {W w w' : World} (o : Own A w w') (h : Below B W w) (hB : B ≤ A) (hs : B ≤ w.heap.size) : Below B W w' :=
  ⟨o.os.trans h.os, o.tape.trans h.tape, o.output.trans h.output, Nat.le_trans h.size o.size, fun b hb => (o.kept b (by omega) (by omega)).trans (h.block b hb)⟩
/-- what awake has: a pace in a block, a meter in another -/
structure AW (W w : World) (P A : Nat) (h : Bool) (a b : Nat) : Prop where
  be : Below W.heap.size W w
  p : w.heap[P]? = some (paC 2 8 4)
  m : Mt w 46 A h a b
  ne : P ≠ A
  le : W.heap.size ≤ A
  sz : W.heap.size ≤ w.heap.size
section
variable {W w w' : World} {P A : Nat} {h h' : Bool} {a b a' b' : Nat}
theorem AW.own (s : AW W w P A h a b) (m' : Mt w' 46 A h' a' b') (o : Own A w w') : AW W w' P A h' a' b' :=
  ⟨o.below s.be s.le s.sz, (o.kept P (Array.getElem?_eq_some_iff.1 s.p).1 s.ne).trans s.p, m', s.ne, s.le, Nat.le_trans s.sz o.size⟩
theorem AW.below (s : AW W w P A h a b) (o : Below w.heap.size w w') : AW W w' P A h a b :=
  ⟨s.be.trans (o.mono s.sz), (o.block P (Array.getElem?_eq_some_iff.1 s.p).1).trans s.p, ⟨(o.block A s.m.lt).trans s.m.at_⟩, s.ne, s.le, Nat.le_trans s.sz o.size⟩
theorem AW.c0 (s : AW W w P A h a b) : w.cell? ⟨P, 0, none⟩ = some (.int .i64 2) := by unfold World.cell?; rw [s.p]; rfl
theorem AW.c1 (s : AW W w P A h a b) : w.cell? ⟨P, 1, none⟩ = some (.int .i64 8) := by unfold World.cell?; rw [s.p]; rfl
theorem AW.c2 (s : AW W w P A h a b) : w.cell? ⟨P, 2, none⟩ = some (.int .i64 4) := by unfold World.cell?; rw [s.p]; rfl
end
theorem went1 : Fl.Went (Fl.fI (clamp 16)) 1090519040 1090519040 0 1233125376 false 1090519040 1065353216 1091567616 :=
  ⟨by decide +kernel, by decide +kernel, by decide +kernel, by decide, by decide, (fun h => by cases h), by decide +kernel, by decide⟩
theorem went2 : Fl.Went 1090519040 1082130432 1082130432 0 1233125376 false 1082130432 1065353216 1084227584 :=
  ⟨by decide +kernel, by decide +kernel, by decide +kernel, by decide, by decide, (fun h => by cases h), by decide +kernel, by decide⟩
theorem half8 : single.div (Fl.fI (clamp 8)) 1073741824 = some 1082130432 := by decide +kernel
theorem fI8 : Fl.fI (clamp 8) = 1090519040 := by decide +kernel
set_option maxHeartbeats 1000000 in
set_option maxRecDepth 8000 in
theorem awake_any (w : World) : Calls Try.prog 7 #[] w fun e w' => e = .returned (.bool true) ∧ Below w.heap.size w w' := by
  obtain ⟨P, hP⟩ : ∃ P, w.heap.size = P := ⟨_, rfl⟩
  obtain ⟨w0, hw0⟩ : ∃ w0, w.alloc (paC 0 0 0) = w0 := ⟨_, rfl⟩
  obtain ⟨w1, hw1⟩ : ∃ w1, w0.setCell ⟨P, 0, none⟩ (.int .i64 2) = w1 := ⟨_, rfl⟩
  obtain ⟨w2, hw2⟩ : ∃ w2, w1.setCell ⟨P, 1, none⟩ (.int .i64 8) = w2 := ⟨_, rfl⟩
  obtain ⟨w3, hw3⟩ : ∃ w3, w2.setCell ⟨P, 2, none⟩ (.int .i64 4) = w3 := ⟨_, rfl⟩
  have k0 : w0.heap[P]? = some (paC 0 0 0) := by rw [← hw0, ← hP]; exact (MapKept.heap_alloc w _).1
  have k1 : w1.heap[P]? = some (paC 2 0 0) := by rw [← hw1]; unfold World.setCell; simp [Array.getElem?_modify, k0]
  have k2 : w2.heap[P]? = some (paC 2 8 0) := by rw [← hw2]; unfold World.setCell; simp [Array.getElem?_modify, k1]
  have k3 : w3.heap[P]? = some (paC 2 8 4) := by rw [← hw3]; unfold World.setCell; simp [Array.getElem?_modify, k2]
  have o3 : Own P w0 w3 := by rw [← hw3, ← hw2, ← hw1]; exact (((Own.refl P w0).set 0 _).set 1 _).set 2 _
  have b0 : Below P w w0 := by rw [← hw0, ← hP]; exact below_box _ _
  have b3 := o3.below b0 (Nat.le_refl _) (by have := (Array.getElem?_eq_some_iff.1 k0).1; omega)
  have H3 := hid (And.intro k3 b3)
  have c00 : w0.cell? ⟨P, 0, none⟩ = some (.int .i64 0) := by unfold World.cell?; rw [k0]; rfl
  have c11 : w1.cell? ⟨P, 1, none⟩ = some (.int .i64 0) := by unfold World.cell?; rw [k1]; rfl
  have c22 : w2.cell? ⟨P, 2, none⟩ = some (.int .i64 0) := by unfold World.cell?; rw [k2]; rfl
  have c01 : w0.cell? ⟨P, 1, none⟩ = some (.int .i64 0) := by unfold World.cell?; rw [k0]; rfl
  have c02 : w0.cell? ⟨P, 2, none⟩ = some (.int .i64 0) := by unfold World.cell?; rw [k0]; rfl
  have c12 : w1.cell? ⟨P, 2, none⟩ = some (.int .i64 0) := by unfold World.cell?; rw [k1]; rfl
  have f0 : ∀ n, w0.frozen? ⟨P, n, none⟩ = false := fun n => by unfold World.frozen?; rw [k0]; rfl
  have f1 : ∀ n, w1.frozen? ⟨P, n, none⟩ = false := fun n => by unfold World.frozen?; rw [k1]; rfl
  have f2 : ∀ n, w2.frozen? ⟨P, n, none⟩ = false := fun n => by unfold World.frozen?; rw [k2]; rfl
  clear k0 k1 k2 k3 o3 b0 b3
  go_enter Try.func7, Try.ntmps7
  go_wp2_with fail
  refine (newMeter_any w3).mono ?_
  rintro _ w4 ⟨rfl, hm, hb⟩
  obtain ⟨A, hA⟩ : ∃ A, w3.heap.size = A := ⟨_, rfl⟩
  have S4 : Hid (AW w w4 P A false 0 0) := by
    rw [hA] at hm hb
    obtain ⟨k3, b3⟩ := H3.out
    have lt3 := (Array.getElem?_eq_some_iff.1 k3).1
    exact ⟨by rw [hP]; exact b3.trans (hb.mono (by omega)), (hb.block P (by omega)).trans k3, hm, by omega, by omega, by have := hb.size; omega⟩
  rw [hA]
  clear hm hb hA hw0 hw1 hw2 hw3 c00 c11 c22 c01 c02 c12 f0 f1 f2 H3
  go_wp2_with fail
  refine (hear_first S4.out.m 8 half8).mono ?_
  rintro _ w5 ⟨rfl, hm, ho⟩
  rw [fI8] at hm
  have S5 := hid (S4.out.own hm ho)
  clear hm ho S4
  go_wp2_with fail
  refine (hear_next S5.out.m 16 went1 went2).mono ?_
  rintro _ w6 ⟨rfl, hm, ho⟩
  have S6 := hid (S5.out.own hm ho)
  clear hm ho S5
  have y0 := S6.out.c0
  have y1 := S6.out.c1
  have y2 := S6.out.c2
  go_wp2_with fail
  refine (right_any w6 2 8 4).mono ?_
  rintro _ w7 ⟨rfl, hb⟩
  have S7 := hid (S6.out.below hb)
  clear hb S6 y0 y1 y2
  rw [show rightP 2 8 4 = true from by decide +kernel]
  have y0 := S7.out.c0
  have y1 := S7.out.c1
  have y2 := S7.out.c2
  go_wp2_with fail
  refine (wait_any w7 2 8 4 1 (by omega)).mono ?_
  rintro _ w8 ⟨rfl, hb⟩
  have S8 := hid (S7.out.below hb)
  clear hb S7 y0 y1 y2
  rw [show waitP 2 8 4 1 = 4 from by decide +kernel]
  have y0 := S8.out.c0
  have y1 := S8.out.c1
  have y2 := S8.out.c2
  go_wp2_with fail
  refine (wait_any w8 2 8 4 9 (by omega)).mono ?_
  rintro _ w9 ⟨rfl, hb⟩
  have S9 := hid (S8.out.below hb)
  clear hb S8 y0 y1 y2
  rw [show waitP 2 8 4 9 = 8 from by decide +kernel]
  have y0 := S9.out.c0
  have y1 := S9.out.c1
  have y2 := S9.out.c2
  go_wp2_with fail
  refine (total_any w9 2 8 4).mono ?_
  rintro _ w10 ⟨rfl, hb⟩
  have S10 := hid (S9.out.below hb)
  clear hb S9 y0 y1 y2
  rw [show totalP 2 8 4 = 22 from by decide +kernel]
  go_wp2_with fail
  refine (mean_any S10.out.m).mono ?_
  rintro _ w' ⟨rfl, hw'⟩
  subst hw'
  have o1 : (FloatKind.f32.format.order 1091567616 1091567616 == some .eq) = true := by decide +kernel
  go_wp2_with fail
  refine (spread_any S10.out.m).mono ?_
  rintro _ w'' ⟨rfl, hw'⟩
  subst hw'
  have o2 : (FloatKind.f32.format.order 1084227584 1084227584 == some .eq) = true := by decide +kernel
  go_wp2_with fail
  refine (guess_any S10.out.m (by decide) (by decide)).mono ?_
  rintro _ w3' ⟨rfl, hw'⟩
  subst hw'
  rw [show gsP 1091567616 1084227584 = 29 from by decide +kernel]
  have HE := hid S10.out.be
  go_wp2
  go_ret
  exact ⟨rfl, HE.out⟩
end Go.Proofs.Ytpimdiliibokbaa
