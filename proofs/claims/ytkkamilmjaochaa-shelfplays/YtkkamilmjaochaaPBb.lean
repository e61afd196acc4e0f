/- The document's shelf: find, Get, Len, New. -/
import Derived.Test.YtkkamilmjaochaaPBa
namespace Go.Proofs.Ytkkamilmjaochaa
open Go.RowKit
structure Pr where
  k : KeyP
  v : Int
def prC (x : Pr) : List Value := [.string x.k.s, .int .i64 x.k.n, .int .i64 x.v]
theorem prL (x : Pr) : (prC x).length = 3 := rfl
theorem prO (x : Pr) : ∀ u ∈ prC x, u.oneCell' = true := by
  intro u hu
  simp [prC] at hu
  rcases hu with rfl | rfl | rfl <;> rfl
theorem info159 : ∃ i : TypeInfo, Try.prog.info? 159 = some i ∧ i.zero = some (.agg #[.string ⟨#[]⟩, .int .i64 0, .int .i64 0]) ∧ i.size = 3 ∧ i.bytes = 32 :=
  ⟨(Try.prog.info? 159).getD default, by kernel_rfl, by kernel_rfl, by kernel_rfl, by kernel_rfl⟩
structure DS (K : Nat → Nat) (w : World) (B t x most : Nat) (v : Value) (L : List Pr) : Prop where
  me : TB K w t x (.cells #[.int .i64 most, v] 105 (0, 0))
  l : RW 159 3 prC K w B (t + 1) v L
section
variable {K K' : Nat → Nat} {w w' : World} {B t x most : Nat} {v : Value} {L : List Pr}
theorem DS.mv {T : Nat → Prop} (h : DS K w B t x most v L) (m : Mv T w w' K K') (t0 : ¬ T t) (t1 : ¬ T (t + 1)) : DS K' w' B t x most v L := ⟨h.me.mv m t0, h.l.mv m t1⟩
theorem DS.c0 (h : DS K w B t x most v L) : w.cell? ⟨x, 0, none⟩ = some (.int .i64 most) := by unfold World.cell?; rw [h.me.at_]; rfl
theorem DS.c1 (h : DS K w B t x most v L) : w.cell? ⟨x, 1, none⟩ = some v := by unfold World.cell?; rw [h.me.at_]; rfl
theorem DS.f (h : DS K w B t x most v L) (n : Nat) : w.frozen? ⟨x, n, none⟩ = false := by unfold World.frozen?; rw [h.me.at_]; rfl
theorem find_any (h : DS K w B t x most v L) (hl : L.length ≤ 10000000) (k : KeyP) :
    Calls Try.prog 59 #[ptr x, keyV k] w fun e w' => ∃ v, e = .returned (.int .i64 v) ∧ FK (fun y : Pr => y.k = k) L v ∧ Below w.heap.size w w' := by
  obtain ⟨w0, hw0⟩ : ∃ w0, w.alloc (.cells #[.string k.s, .int .i64 k.n] 32) = w0 := ⟨_, rfl⟩
  have B0 : Below w.heap.size w w0 := by rw [← hw0]; exact (Below.refl _ _).alloc (Nat.le_refl _) _
  have kb : w0.heap[w.heap.size]? = some (.cells #[.string k.s, .int .i64 k.n] 32) := by rw [← hw0]; exact (MapKept.heap_alloc w _).1
  have m0 := Mv.of_below B0 K (fun _ => 0)
  have h0 := h.mv m0 id id
  obtain ⟨A0, hA⟩ : ∃ A0, w.heap.size = A0 := ⟨_, rfl⟩
  have HB : Hid (∀ k, Below A0 w (w0.drewN k)) := fun k => by rw [← hA]; exact ⟨B0.os, B0.tape, B0.output, B0.size, B0.block⟩
  rw [hA] at kb ⊢
  have k0 : w0.cell? ⟨A0, 0, none⟩ = some (.string k.s) := by unfold World.cell?; rw [kb]; rfl
  have k1 : w0.cell? ⟨A0, 1, none⟩ = some (.int .i64 k.n) := by unfold World.cell?; rw [kb]; rfl
  obtain ⟨oa, cap, e1, _, hg⟩ := h0.l.form
  subst e1
  obtain ⟨n, hn⟩ : ∃ n, L.length = n := ⟨_, rfl⟩
  rw [hn] at hg
  have c4 := h0.c1
  rw [hn] at c4
  have HH := hid h0
  have HN := hid (And.intro hn hl)
  have HG := hid hg
  clear h h0 m0 B0 kb hl hn hg
  go_enter Try.func59, Try.ntmps59
  go_wp2_with fail
  go_loopw [5] (fun u5 wr => ∃ j q : Nat, u5 = .int .i64 j ∧ w0.drewN q = wr ∧ j ≤ n ∧ NoK (fun y : Pr => y.k = k) L j) (fun u5 _ => n - (intOf u5).toNat)
  case atStart => exact ⟨0, 0, rfl, rfl, Nat.zero_le _, fun k y hk => by omega⟩
  case round =>
    obtain ⟨j, q, rfl, hwk, hj, hno⟩ := hrel
    have x4 : wr.cell? ⟨x, 1, none⟩ = some (.slice oa n cap) := by rw [← hwk]; exact c4
    by_cases hjn : j < n
    · have hj' : (j : Int) < (n : Int) := by omega
      have hj0 : (0 : Int) ≤ (j : Int) := by omega
      obtain ⟨y, hy⟩ : ∃ y, L[j]? = some y := ⟨_, List.getElem?_eq_getElem (by rw [HN.out.1]; exact hjn)⟩
      obtain ⟨g9, hg9⟩ := HG.out (by omega)
      subst hg9
      have hr := HH.out.l
      rw [HN.out.1] at hr
      have t0 : wr.cell? ⟨g9, j * 3, none⟩ = some (.string y.k.s) := by rw [← hwk]; exact hr.cell prL HN.out.1 hy 0 (by omega)
      have t1 : wr.cell? ⟨g9, j * 3 + 1, none⟩ = some (.int .i64 y.k.n) := by rw [← hwk]; exact hr.cell prL HN.out.1 hy 1 (by omega)
      have y0 : wr.cell? ⟨A0, 0, none⟩ = some (.string k.s) := by rw [← hwk]; exact k0
      have y1 : wr.cell? ⟨A0, 1, none⟩ = some (.int .i64 k.n) := by rw [← hwk]; exact k1
      have hwr : wrap64 ((j : Int) + 1) = (j : Int) + 1 := by have := HN.out; unfold wrap64; omega
      have HWK : Hid (∀ m, w0.drewN (q + m) = wr.drewN m) := fun m => by rw [← hwk, World.drewN_drewN]
      have hgd := fun w op x y xs ys => guard32n w op x y xs ys
      have hq : ∀ w, (binOp .eql 32 (.agg #[.string y.k.s, .int .i64 y.k.n]) (.agg #[.string k.s, .int .i64 k.n])).run Try.prog w = .ok (.bool (keyEq y.k k)) w := fun w => eql32 w y.k k
      by_cases e1 : y.k = k
      · have d1 : keyEq y.k k = true := (keyEq_is _ _).2 e1
        have HFA := hid (hno.hit hy e1)
        rw [d1] at hq
        clear hno hy hwk d1 e1 hr k0 k1 c4
        generalize y.k.s = ys at *
        generalize y.k.n = yn at *
        generalize k.s = ks at *
        generalize k.n = kn at *
        go_wp2_with fail
        go_quiet (fail)
        go_wp2
        go_ret
        exact ⟨_, rfl, HFA.out, by rw [← HWK.out nq]; exact HB.out _⟩
      · have d1 : keyEq y.k k = false := by
          rw [Bool.eq_false_iff]
          intro h
          exact e1 ((keyEq_is _ _).1 h)
        have HFA := hid (hno.step hy e1)
        rw [d1] at hq
        clear hno hy hwk d1 e1 hr k0 k1 c4
        generalize y.k.s = ys at *
        generalize y.k.n = yn at *
        go_wp2_with fail
        go_quiet (fail)
        go_wp2
        go_roundw
        case rel => exact ⟨j + 1, q + nq, by rw [hwr]; rfl, HWK.out nq, hjn, HFA.out⟩
        case measure => exact meas hwr hj'
    · obtain rfl : j = n := by omega
      have hno2 := hno
      rw [← HN.out.1] at hno2
      have HFA := hid hno2.all
      have HBE : Hid (Below A0 w wr) := by rw [← hwk]; exact HB.out _
      clear hno hno2 hwk
      go_wp2
      go_ret
      exact ⟨_, rfl, HFA.out, HBE.out⟩
theorem dlen_any (h : DS K w B t x most v L) : Calls Try.prog 51 #[ptr x] w fun e w' => e = .returned (.int .i64 (L.length : Nat)) ∧ w' = w := by
  obtain ⟨oa, cap, e1, _, hg⟩ := h.l.form
  subst e1
  have c1 := h.c1
  clear hg h
  go_enter Try.func51, Try.ntmps51
  go_wp2
  go_ret
  exact ⟨rfl, rfl⟩
/-- what stands under a key -/
def getP (L : List Pr) (k : KeyP) (v : Int) (b : Bool) : Prop := (v = 0 ∧ b = false ∧ ∀ y ∈ L, y.k ≠ k) ∨ ∃ L1 L2 y, L = L1 ++ y :: L2 ∧ y.k = k ∧ v = y.v ∧ b = true
theorem dget_any (h : DS K w B t x most v L) (hl : L.length ≤ 10000000) (k : KeyP) :
    Calls Try.prog 42 #[ptr x, keyV k] w fun e w' => ∃ u b, e = .returned (.tuple #[.int .i64 u, .bool b]) ∧ getP L k u b ∧ Below w.heap.size w w' := by
  obtain ⟨w0, hw0⟩ : ∃ w0, w.alloc (.cells #[.string k.s, .int .i64 k.n] 32) = w0 := ⟨_, rfl⟩
  have B0 : Below w.heap.size w w0 := by rw [← hw0]; exact (Below.refl _ _).alloc (Nat.le_refl _) _
  have kb : w0.heap[w.heap.size]? = some (.cells #[.string k.s, .int .i64 k.n] 32) := by rw [← hw0]; exact (MapKept.heap_alloc w _).1
  have m0 := Mv.of_below B0 K (fun _ => 0)
  have h0 := h.mv m0 id id
  obtain ⟨A0, hA⟩ : ∃ A0, w.heap.size = A0 := ⟨_, rfl⟩
  have HB := hid B0
  rw [hA] at kb HB ⊢
  have k0 : w0.cell? ⟨A0, 0, none⟩ = some (.string k.s) := by unfold World.cell?; rw [kb]; rfl
  have k1 : w0.cell? ⟨A0, 1, none⟩ = some (.int .i64 k.n) := by unfold World.cell?; rw [kb]; rfl
  have HF := hid (find_any h0 hl k)
  have HH := hid h0
  have HN := hid hl
  clear h h0 m0 B0 kb hl
  go_enter Try.func42, Try.ntmps42
  go_wp2_with fail
  refine HF.out.mono ?_
  rintro _ w1 ⟨i, rfl, hf, b1⟩
  have HB1 : Hid (Below A0 w w1) := HB.out.trans (b1.mono (by have := HB.out.size; omega))
  have h1 := HH.out.mv (Mv.of_below b1 (ext w K (fun _ => 0)) (fun _ => 0)) id id
  rcases hf with ⟨rfl, hno⟩ | ⟨L1, L2, y, hL, rfl, hyk, _⟩
  · have HE : Hid (getP L k 0 false) := .inl ⟨rfl, rfl, hno⟩
    clear hno h1 b1 k0 k1 HF
    go_wp2
    go_ret2
    exact ⟨0, false, rfl, HE.out, HB1.out⟩
  · have HE : Hid (getP L k y.v true) := .inr ⟨L1, L2, y, hL, hyk, rfl, rfl⟩
    obtain ⟨oa, cap, e1, _, hg⟩ := h1.l.form
    subst e1
    have hlen : L1.length < L.length := by rw [hL]; simp
    obtain ⟨n, hn⟩ : ∃ n, L.length = n := ⟨_, rfl⟩
    obtain ⟨g9, hg9⟩ := hg (by omega)
    subst hg9
    have hr := h1.l
    rw [hn] at hr hlen
    have c1 := h1.c1
    rw [hn] at c1
    have t2 : w1.cell? ⟨g9, L1.length * 3 + 2, none⟩ = some (.int .i64 y.v) := hr.cell prL hn (j := L1.length) (x := y) (by rw [hL]; simp) 2 (by omega)
    obtain ⟨jn, hjn⟩ : ∃ jn, L1.length = jn := ⟨_, rfl⟩
    rw [hjn] at t2 hlen ⊢
    have hj' : (jn : Int) < (n : Int) := by omega
    have hj0 : (0 : Int) ≤ (jn : Int) := by omega
    have hj1 : ¬ (jn : Int) < 0 := by omega
    clear h1 b1 k0 k1 HF hr hL hyk hg
    go_wp2
    go_ret2
    exact ⟨_, true, rfl, HE.out, HB1.out⟩
end
end Go.Proofs.Ytkkamilmjaochaa
