/- The document's cache: client, item, of. -/
import Derived.Test.YtnpffhgmakbdnaaPlRa
namespace Go.Proofs.Ytnpffhgmakbdnaa
open Go.RowKit
def Kn.is (x : Kn) (a i : Int) : Prop := x.a = a ∧ x.i = i
section
variable {K K' : Nat → Nat} {w w' : World} {B t x : Nat} {g : Cf} {v1 v2 : Value} {L : List Kn} {I : List Sn}
theorem client_any (h : DC K w B t x g v1 v2 L I) (hl : L.length ≤ 1000000) (a i : Int) :
    Calls Try.prog 36 #[ptr x, whoV a i] w fun e w' => ∃ v, e = .returned (.int .i64 v) ∧ FK (fun y : Kn => y.is a i) L v ∧ Below w.heap.size w w' := by
  obtain ⟨w0, hw0⟩ : ∃ w0, w.alloc (.cells #[.int .i64 a, .int .i64 i] 37) = w0 := ⟨_, rfl⟩
  have B0 : Below w.heap.size w w0 := by rw [← hw0]; exact below_box _ _
  have kb : w0.heap[w.heap.size]? = some (.cells #[.int .i64 a, .int .i64 i] 37) := by rw [← hw0]; exact (MapKept.heap_alloc w _).1
  have m0 := Mv.of_below B0 K (fun _ => 0)
  have h0 := h.mv m0 id id id
  obtain ⟨A0, hA⟩ : ∃ A0, w.heap.size = A0 := ⟨_, rfl⟩
  have HB : Hid (∀ k, Below A0 w (w0.drewN k)) := fun k => by rw [← hA]; exact ⟨B0.os, B0.tape, B0.output, B0.size, B0.block⟩
  rw [hA] at kb ⊢
  have k0 : w0.cell? ⟨A0, 0, none⟩ = some (.int .i64 a) := by unfold World.cell?; rw [kb]; rfl
  have k1 : w0.cell? ⟨A0, 1, none⟩ = some (.int .i64 i) := by unfold World.cell?; rw [kb]; rfl
  obtain ⟨oa, cap, e1, _, hg⟩ := h0.l.form
  subst e1
  obtain ⟨n, hn⟩ : ∃ n, L.length = n := ⟨_, rfl⟩
  rw [hn] at hg
  have c4 := h0.c4
  rw [hn] at c4
  have HH := hid h0
  have HN := hid (And.intro hn hl)
  have HG := hid hg
  clear h h0 m0 B0 kb hl hn hg
  go_enter Try.func36, Try.ntmps36
  go_wp2_with fail
  go_loopw [5] (fun u5 wr => ∃ j k : Nat, u5 = .int .i64 j ∧ w0.drewN k = wr ∧ j ≤ n ∧ NoK (fun y : Kn => y.is a i) L j) (fun u5 _ => n - (intOf u5).toNat)
  case atStart => exact ⟨0, 0, rfl, rfl, Nat.zero_le _, fun k y hk => by omega⟩
  case round =>
    obtain ⟨j, k, rfl, hwk, hj, hno⟩ := hrel
    have x4 : wr.cell? ⟨x, 4, none⟩ = some (.slice oa n cap) := by rw [← hwk]; exact c4
    by_cases hjn : j < n
    · have hj' : (j : Int) < (n : Int) := by omega
      have hj0 : (0 : Int) ≤ (j : Int) := by omega
      obtain ⟨y, hy⟩ : ∃ y, L[j]? = some y := ⟨_, List.getElem?_eq_getElem (by rw [HN.out.1]; exact hjn)⟩
      obtain ⟨g9, hg9⟩ := HG.out (by omega)
      subst hg9
      have hr := HH.out.l
      rw [HN.out.1] at hr
      have t0 : wr.cell? ⟨g9, j * 3, none⟩ = some (.int .i64 y.a) := by rw [← hwk]; exact hr.cell knL HN.out.1 hy 0 (by omega)
      have t1 : wr.cell? ⟨g9, j * 3 + 1, none⟩ = some (.int .i64 y.i) := by rw [← hwk]; exact hr.cell knL HN.out.1 hy 1 (by omega)
      have y0 : wr.cell? ⟨A0, 0, none⟩ = some (.int .i64 a) := by rw [← hwk]; exact k0
      have y1 : wr.cell? ⟨A0, 1, none⟩ = some (.int .i64 i) := by rw [← hwk]; exact k1
      have hwr : wrap64 ((j : Int) + 1) = (j : Int) + 1 := by have := HN.out; unfold wrap64; omega
      have HWK : Hid (∀ m, w0.drewN (k + m) = wr.drewN m) := fun m => by rw [← hwk, World.drewN_drewN]
      have hgd := fun w op x y xs ys => guard37n w op x y xs ys
      have hq := fun w => eql37 w y.a y.i a i
      by_cases e1 : y.a = a ∧ y.i = i
      · have d1 : (y.a == a && y.i == i) = true := by simp [e1.1, e1.2]
        have HFA := hid (hno.hit hy e1)
        rw [d1] at hq
        clear hno hy hwk d1 e1 hr k0 k1 c4
        generalize y.a = xa at *
        generalize y.i = xi at *
        go_wp2_with fail
        go_quiet (fail)
        go_wp2
        go_ret
        exact ⟨_, rfl, HFA.out, by rw [← HWK.out nq]; exact HB.out _⟩
      · have d1 : (y.a == a && y.i == i) = false := by
          rw [Bool.eq_false_iff]
          intro h
          exact e1 (by simpa using h)
        have HFA := hid (hno.step hy e1)
        rw [d1] at hq
        clear hno hy hwk d1 e1 hr k0 k1 c4
        generalize y.a = xa at *
        generalize y.i = xi at *
        go_wp2_with fail
        go_quiet (fail)
        go_wp2
        go_roundw
        case rel => exact ⟨j + 1, k + nq, by rw [hwr]; rfl, HWK.out nq, hjn, HFA.out⟩
        case measure => exact meas hwr hj'
    · obtain rfl : j = n := by omega
      have hno2 := hno
      rw [← HN.out.1] at hno2
      have HFA := hid hno2.all
      have HBE : Hid (Below A0 w wr) := by rw [← hwk]; exact HB.out _
      clear hno hno2 hwk
      go_wp2
      go_ret
      exact ⟨_, rfl, HFA.out, HBE.out⟩
theorem item_any (h : DC K w B t x g v1 v2 L I) (hl : I.length ≤ 1000000) (a i seq : Int) :
    Calls Try.prog 38 #[ptr x, whoV a i, .int .i64 seq] w fun e w' => ∃ v, e = .returned (.int .i64 v) ∧ FK (fun y : Sn => y.is a i seq) I v ∧ Below w.heap.size w w' := by
  obtain ⟨w0, hw0⟩ : ∃ w0, w.alloc (.cells #[.int .i64 a, .int .i64 i] 37) = w0 := ⟨_, rfl⟩
  have B0 : Below w.heap.size w w0 := by rw [← hw0]; exact below_box _ _
  have kb : w0.heap[w.heap.size]? = some (.cells #[.int .i64 a, .int .i64 i] 37) := by rw [← hw0]; exact (MapKept.heap_alloc w _).1
  have m0 := Mv.of_below B0 K (fun _ => 0)
  have h0 := h.mv m0 id id id
  obtain ⟨A0, hA⟩ : ∃ A0, w.heap.size = A0 := ⟨_, rfl⟩
  have HB : Hid (∀ k, Below A0 w (w0.drewN k)) := fun k => by rw [← hA]; exact ⟨B0.os, B0.tape, B0.output, B0.size, B0.block⟩
  rw [hA] at kb ⊢
  have k0 : w0.cell? ⟨A0, 0, none⟩ = some (.int .i64 a) := by unfold World.cell?; rw [kb]; rfl
  have k1 : w0.cell? ⟨A0, 1, none⟩ = some (.int .i64 i) := by unfold World.cell?; rw [kb]; rfl
  obtain ⟨oa, cap, e1, _, hg⟩ := h0.i.form
  subst e1
  obtain ⟨n, hn⟩ : ∃ n, I.length = n := ⟨_, rfl⟩
  rw [hn] at hg
  have c5 := h0.c5
  rw [hn] at c5
  have HH := hid h0
  have HN := hid (And.intro hn hl)
  have HG := hid hg
  clear h h0 m0 B0 kb hl hn hg
  go_enter Try.func38, Try.ntmps38
  go_wp2_with fail
  go_loopw [7] (fun u5 wr => ∃ j k : Nat, u5 = .int .i64 j ∧ w0.drewN k = wr ∧ j ≤ n ∧ NoK (fun y : Sn => y.is a i seq) I j) (fun u5 _ => n - (intOf u5).toNat)
  case atStart => exact ⟨0, 0, rfl, rfl, Nat.zero_le _, fun k y hk => by omega⟩
  case round =>
    obtain ⟨j, k, rfl, hwk, hj, hno⟩ := hrel
    have x5 : wr.cell? ⟨x, 5, none⟩ = some (.slice oa n cap) := by rw [← hwk]; exact c5
    by_cases hjn : j < n
    · have hj' : (j : Int) < (n : Int) := by omega
      have hj0 : (0 : Int) ≤ (j : Int) := by omega
      obtain ⟨y, hy⟩ : ∃ y, I[j]? = some y := ⟨_, List.getElem?_eq_getElem (by rw [HN.out.1]; exact hjn)⟩
      obtain ⟨g9, hg9⟩ := HG.out (by omega)
      subst hg9
      have hr := HH.out.i
      rw [HN.out.1] at hr
      have t0 : wr.cell? ⟨g9, j * 5, none⟩ = some (.int .i64 y.a) := by rw [← hwk]; exact hr.cell snL HN.out.1 hy 0 (by omega)
      have t1 : wr.cell? ⟨g9, j * 5 + 1, none⟩ = some (.int .i64 y.i) := by rw [← hwk]; exact hr.cell snL HN.out.1 hy 1 (by omega)
      have t2 : wr.cell? ⟨g9, j * 5 + 2, none⟩ = some (.int .i64 y.seq) := by rw [← hwk]; exact hr.cell snL HN.out.1 hy 2 (by omega)
      have y0 : wr.cell? ⟨A0, 0, none⟩ = some (.int .i64 a) := by rw [← hwk]; exact k0
      have y1 : wr.cell? ⟨A0, 1, none⟩ = some (.int .i64 i) := by rw [← hwk]; exact k1
      have hwr : wrap64 ((j : Int) + 1) = (j : Int) + 1 := by have := HN.out; unfold wrap64; omega
      have HWK : Hid (∀ m, w0.drewN (k + m) = wr.drewN m) := fun m => by rw [← hwk, World.drewN_drewN]
      have hgd := fun w op x y xs ys => guard37n w op x y xs ys
      have hq := fun w => eql37 w y.a y.i a i
      by_cases e1 : y.a = a ∧ y.i = i
      · have d1 : (y.a == a && y.i == i) = true := by simp [e1.1, e1.2]
        rw [d1] at hq
        by_cases e2 : y.seq = seq
        · have d2 : (y.seq == seq) = true := by simp [e2]
          have HFA := hid (hno.hit hy ⟨e1.1, e1.2, e2⟩)
          clear hno hy hwk d1 e1 e2 hr k0 k1 c5
          generalize y.a = xa at *
          generalize y.i = xi at *
          generalize y.seq = xs at *
          go_wp2_with fail
          go_quiet (fail)
          go_wp2
          go_ret
          exact ⟨_, rfl, HFA.out, by rw [← HWK.out nq]; exact HB.out _⟩
        · have d2 : (y.seq == seq) = false := by simp [e2]
          have HFA := hid (hno.step hy (fun q => e2 q.2.2))
          clear hno hy hwk d1 e1 e2 hr k0 k1 c5
          generalize y.a = xa at *
          generalize y.i = xi at *
          generalize y.seq = xs at *
          go_wp2_with fail
          go_quiet (fail)
          go_wp2
          go_roundw
          case rel => exact ⟨j + 1, k + nq, by rw [hwr]; rfl, HWK.out nq, hjn, HFA.out⟩
          case measure => exact meas hwr hj'
      · have d1 : (y.a == a && y.i == i) = false := by
          rw [Bool.eq_false_iff]
          intro h
          exact e1 (by simpa using h)
        have HFA := hid (hno.step hy (fun q => e1 ⟨q.1, q.2.1⟩))
        rw [d1] at hq
        clear hno hy hwk d1 e1 hr k0 k1 c5
        generalize y.a = xa at *
        generalize y.i = xi at *
        generalize y.seq = xs at *
        go_wp2_with fail
        go_quiet (fail)
        go_wp2
        go_roundw
        case rel => exact ⟨j + 1, k + nq, by rw [hwr]; rfl, HWK.out nq, hjn, HFA.out⟩
        case measure => exact meas hwr hj'
    · obtain rfl : j = n := by omega
      have hno2 := hno
      rw [← HN.out.1] at hno2
      have HFA := hid hno2.all
      have HBE : Hid (Below A0 w wr) := by rw [← hwk]; exact HB.out _
      clear hno hno2 hwk
      go_wp2
      go_ret
      exact ⟨_, rfl, HFA.out, HBE.out⟩
def ofP (I : List Sn) (a i : Int) : Nat := (I.filter fun y => y.a == a && y.i == i).length
theorem of_step (I : List Sn) (a i : Int) (j : Nat) (y : Sn) (hy : I[j]? = some y) : ofP (I.take (j + 1)) a i = ofP (I.take j) a i + (if (y.a == a && y.i == i) = true then 1 else 0) := by
  unfold ofP
  rw [List.take_add_one, hy, List.filter_append, List.length_append]
  congr 1
  by_cases e : (y.a == a && y.i == i) = true <;> simp [e]
theorem of_any (h : DC K w B t x g v1 v2 L I) (hl : I.length ≤ 1000000) (a i : Int) :
    Calls Try.prog 39 #[ptr x, whoV a i] w fun e w' => e = .returned (.int .i64 (ofP I a i)) ∧ Below w.heap.size w w' := by
  obtain ⟨w0, hw0⟩ : ∃ w0, w.alloc (.cells #[.int .i64 a, .int .i64 i] 37) = w0 := ⟨_, rfl⟩
  have B0 : Below w.heap.size w w0 := by rw [← hw0]; exact below_box _ _
  have kb : w0.heap[w.heap.size]? = some (.cells #[.int .i64 a, .int .i64 i] 37) := by rw [← hw0]; exact (MapKept.heap_alloc w _).1
  have m0 := Mv.of_below B0 K (fun _ => 0)
  have h0 := h.mv m0 id id id
  obtain ⟨A0, hA⟩ : ∃ A0, w.heap.size = A0 := ⟨_, rfl⟩
  have HB : Hid (∀ k, Below A0 w (w0.drewN k)) := fun k => by rw [← hA]; exact ⟨B0.os, B0.tape, B0.output, B0.size, B0.block⟩
  rw [hA] at kb ⊢
  have k0 : w0.cell? ⟨A0, 0, none⟩ = some (.int .i64 a) := by unfold World.cell?; rw [kb]; rfl
  have k1 : w0.cell? ⟨A0, 1, none⟩ = some (.int .i64 i) := by unfold World.cell?; rw [kb]; rfl
  obtain ⟨oa, cap, e1, _, hg⟩ := h0.i.form
  subst e1
  obtain ⟨n, hn⟩ : ∃ n, I.length = n := ⟨_, rfl⟩
  rw [hn] at hg
  have c5 := h0.c5
  rw [hn] at c5
  have HH := hid h0
  have HN := hid (And.intro hn hl)
  have HG := hid hg
  clear h h0 m0 B0 kb hl hn hg
  go_enter Try.func39, Try.ntmps39
  go_wp2_with fail
  go_loopw [5, 6] (fun u4 u5 wr => ∃ j k : Nat, u4 = .int .i64 (ofP (I.take j) a i : Nat) ∧ u5 = .int .i64 j ∧ w0.drewN k = wr ∧ j ≤ n) (fun _ u5 _ => n - (intOf u5).toNat)
  case atStart => exact ⟨0, 0, rfl, rfl, rfl, Nat.zero_le _⟩
  case round =>
    obtain ⟨j, k, rfl, rfl, hwk, hj⟩ := hrel
    have x5 : wr.cell? ⟨x, 5, none⟩ = some (.slice oa n cap) := by rw [← hwk]; exact c5
    by_cases hjn : j < n
    · have hj' : (j : Int) < (n : Int) := by omega
      have hj0 : (0 : Int) ≤ (j : Int) := by omega
      obtain ⟨y, hy⟩ : ∃ y, I[j]? = some y := ⟨_, List.getElem?_eq_getElem (by rw [HN.out.1]; exact hjn)⟩
      obtain ⟨g9, hg9⟩ := HG.out (by omega)
      subst hg9
      have hr := HH.out.i
      rw [HN.out.1] at hr
      have t0 : wr.cell? ⟨g9, j * 5, none⟩ = some (.int .i64 y.a) := by rw [← hwk]; exact hr.cell snL HN.out.1 hy 0 (by omega)
      have t1 : wr.cell? ⟨g9, j * 5 + 1, none⟩ = some (.int .i64 y.i) := by rw [← hwk]; exact hr.cell snL HN.out.1 hy 1 (by omega)
      have y0 : wr.cell? ⟨A0, 0, none⟩ = some (.int .i64 a) := by rw [← hwk]; exact k0
      have y1 : wr.cell? ⟨A0, 1, none⟩ = some (.int .i64 i) := by rw [← hwk]; exact k1
      have hwr : wrap64 ((j : Int) + 1) = (j : Int) + 1 := by have := HN.out; unfold wrap64; omega
      have HWK : Hid (∀ m, w0.drewN (k + m) = wr.drewN m) := fun m => by rw [← hwk, World.drewN_drewN]
      have hgd := fun w op x y xs ys => guard37n w op x y xs ys
      have hq := fun w => eql37 w y.a y.i a i
      have hst := of_step I a i j y hy
      have hmx : ofP (I.take j) a i ≤ j := Nat.le_trans (List.length_filter_le _ _) (by simp; omega)
      obtain ⟨cn, hcn⟩ : ∃ cn, ofP (I.take j) a i = cn := ⟨_, rfl⟩
      rw [hcn] at hst hmx ⊢
      cases d1 : (y.a == a && y.i == i)
      · rw [d1] at hq hst
        have HST : Hid (ofP (I.take (j + 1)) a i = cn) := (by simpa using hst : ofP (I.take (j + 1)) a i = cn)
        clear hy hwk d1 hr k0 k1 c5 hst hmx hcn
        generalize y.a = xa at *
        generalize y.i = xi at *
        go_wp2_with fail
        go_quiet (fail)
        go_wp2
        go_roundw
        case rel => exact ⟨j + 1, k + nq, by rw [HST.out], by rw [hwr]; rfl, HWK.out nq, hjn⟩
        case measure => exact meas hwr hj'
      · rw [d1] at hq hst
        have HST : Hid (ofP (I.take (j + 1)) a i = cn + 1) := (by simpa using hst : ofP (I.take (j + 1)) a i = cn + 1)
        have hcw : wrap64 ((cn : Int) + 1) = (cn : Int) + 1 := by have := HN.out; unfold wrap64; omega
        clear hy hwk d1 hr k0 k1 c5 hst hmx hcn
        generalize y.a = xa at *
        generalize y.i = xi at *
        go_wp2_with fail
        go_quiet (fail)
        go_wp2
        go_roundw
        case rel => exact ⟨j + 1, k + nq, by rw [HST.out, hcw]; rfl, by rw [hwr]; rfl, HWK.out nq, hjn⟩
        case measure => exact meas hwr hj'
    · obtain rfl : j = n := by omega
      have HT : Hid (I.take j = I) := List.take_of_length_le (by rw [HN.out.1]; exact Nat.le_refl _)
      have HBE : Hid (Below A0 w wr) := by rw [← hwk]; exact HB.out _
      clear hwk
      go_wp2
      go_ret
      exact ⟨by rw [HT.out]; rfl, HBE.out⟩
end
end Go.Proofs.Ytnpffhgmakbdnaa
