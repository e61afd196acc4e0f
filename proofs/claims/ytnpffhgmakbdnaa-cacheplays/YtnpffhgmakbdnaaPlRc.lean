/- The document's cache: Bytes, Clients, Entries, Water, Busy. -/
import Derived.Test.YtnpffhgmakbdnaaPlRb
namespace Go.Proofs.Ytnpffhgmakbdnaa
open Go.RowKit
def szS (rs : Nat) (y : Sn) : Nat := if y.dn then y.rep.size else rs
def bytI (rs : Nat) (I : List Sn) : Nat := (I.map (szS rs)).sum
theorem bytI_le {rs : Nat} : ∀ {I : List Sn}, (∀ y ∈ I, szS rs y ≤ 1100) → bytI rs I ≤ I.length * 1100
  | [], _ => by simp [bytI]
  | y :: I, h => by
    have h1 := h y (by simp)
    have h2 := bytI_le (I := I) fun x hx => h x (by simp [hx])
    simp only [bytI, List.map_cons, List.sum_cons, List.length_cons] at h2 ⊢
    omega
theorem bytI_step (rs : Nat) (I : List Sn) (j : Nat) (y : Sn) (hy : I[j]? = some y) : bytI rs (I.take (j + 1)) = bytI rs (I.take j) + szS rs y := by
  unfold bytI
  rw [List.take_add_one, hy]
  simp
section
variable {K K' : Nat → Nat} {w w' : World} {B t x : Nat} {g : Cf} {v1 v2 : Value} {L : List Kn} {I : List Sn}
theorem dbytes_any (h : DC K w B t x g v1 v2 L I) (hl : I.length ≤ 1000000) (hs : ∀ y ∈ I, szS g.rs y ≤ 1100) :
    Calls Try.prog 28 #[ptr x] w fun e w' => e = .returned (.int .i64 (bytI g.rs I)) ∧ w' = w := by
  obtain ⟨oa, cap, e1, _, hg⟩ := h.i.form
  subst e1
  obtain ⟨n, hn⟩ : ∃ n, I.length = n := ⟨_, rfl⟩
  rw [hn] at hg
  have c5 := h.c5
  rw [hn] at c5
  have c3 := h.c3
  have HH := hid h
  have HN := hid (And.intro hn hl)
  have HG := hid hg
  have HSZ := hid hs
  clear h hl hn hg hs
  go_enter Try.func28, Try.ntmps28
  go_wp2_with fail
  go_loopw [3, 4] (fun u3 u4 wr => ∃ j : Nat, u3 = .int .i64 (bytI g.rs (I.take j) : Nat) ∧ u4 = .int .i64 j ∧ wr = w ∧ j ≤ n) (fun _ u5 _ => n - (intOf u5).toNat)
  case atStart => exact ⟨0, rfl, rfl, rfl, Nat.zero_le _⟩
  case round =>
    obtain ⟨j, rfl, rfl, hwk, hj⟩ := hrel
    subst hwk
    by_cases hjn : j < n
    · have hj' : (j : Int) < (n : Int) := by omega
      have hj0 : (0 : Int) ≤ (j : Int) := by omega
      obtain ⟨y, hy⟩ : ∃ y, I[j]? = some y := ⟨_, List.getElem?_eq_getElem (by rw [HN.out.1]; exact hjn)⟩
      obtain ⟨g9, hg9⟩ := HG.out (by omega)
      subst hg9
      have hr := HH.out.i
      rw [HN.out.1] at hr
      have t3 : wr.cell? ⟨g9, j * 5 + 3, none⟩ = some (.bool y.dn) := hr.cell snL HN.out.1 hy 3 (by omega)
      have t4 : wr.cell? ⟨g9, j * 5 + 4, none⟩ = some (.string y.rep) := hr.cell snL HN.out.1 hy 4 (by omega)
      have hwr : wrap64 ((j : Int) + 1) = (j : Int) + 1 := by have := HN.out; unfold wrap64; omega
      have hst := bytI_step g.rs I j y hy
      have hmx : bytI g.rs (I.take j) ≤ 1100000000 := by
        have h1 := bytI_le (rs := g.rs) (I := I.take j) fun z hz => HSZ.out z (List.mem_of_mem_take hz)
        have h2 : (I.take j).length ≤ 1000000 := by have := HN.out; simp; omega
        omega
      have hsy := HSZ.out y (List.mem_of_getElem? hy)
      obtain ⟨cn, hcn⟩ : ∃ cn, bytI g.rs (I.take j) = cn := ⟨_, rfl⟩
      rw [hcn] at hst hmx ⊢
      unfold szS at hst hsy
      cases d1 : y.dn
      · rw [d1] at t3 hst hsy
        have HST : Hid (bytI g.rs (I.take (j + 1)) = cn + g.rs) := (by simpa using hst : bytI g.rs (I.take (j + 1)) = cn + g.rs)
        have hcw : wrap64 ((cn : Int) + (g.rs : Int)) = ((cn + g.rs : Nat) : Int) := by simp at hsy; unfold wrap64; omega
        clear hy d1 hr hst hmx hcn hsy
        generalize y.rep = yr at *
        go_wp2
        go_roundw
        case rel => exact ⟨j + 1, by rw [HST.out, hcw], by rw [hwr]; rfl, by first | rfl | trivial, hjn⟩
        case measure => exact meas hwr hj'
      · rw [d1] at t3 hst hsy
        have HST : Hid (bytI g.rs (I.take (j + 1)) = cn + y.rep.size) := (by simpa using hst : bytI g.rs (I.take (j + 1)) = cn + y.rep.size)
        have hcw : wrap64 ((cn : Int) + (y.rep.size : Int)) = ((cn + y.rep.size : Nat) : Int) := by simp at hsy; unfold wrap64; omega
        clear hy d1 hr hst hmx hcn hsy
        generalize y.rep = yr at *
        go_wp2
        go_roundw
        case rel => exact ⟨j + 1, by rw [HST.out, hcw], by rw [hwr]; rfl, by first | rfl | trivial, hjn⟩
        case measure => exact meas hwr hj'
    · obtain rfl : j = n := by omega
      have HT : Hid (I.take j = I) := List.take_of_length_le (by rw [HN.out.1]; exact Nat.le_refl _)
      go_wp2
      go_ret
      exact ⟨by rw [HT.out]; rfl, rfl⟩
theorem dclients_any (h : DC K w B t x g v1 v2 L I) : Calls Try.prog 26 #[ptr x] w fun e w' => e = .returned (.int .i64 L.length) ∧ w' = w := by
  obtain ⟨oa, cap, e1, _, _⟩ := h.l.form
  subst e1
  have c4 := h.c4
  generalize L.length = n at *
  clear h
  go_enter Try.func26, Try.ntmps26
  go_wp2
  go_ret
  exact ⟨rfl, rfl⟩
theorem dentries_any (h : DC K w B t x g v1 v2 L I) : Calls Try.prog 27 #[ptr x] w fun e w' => e = .returned (.int .i64 I.length) ∧ w' = w := by
  obtain ⟨oa, cap, e1, _, _⟩ := h.i.form
  subst e1
  have c5 := h.c5
  generalize I.length = n at *
  clear h
  go_enter Try.func27, Try.ntmps27
  go_wp2
  go_ret
  exact ⟨rfl, rfl⟩
/-- the water of the first that is meant, or 0 -/
def watK (L : List Kn) (a i : Int) (v : Int) : Prop := (v = 0 ∧ ∀ y ∈ L, ¬ y.is a i) ∨ ∃ y ∈ L, y.is a i ∧ v = y.water
theorem dwater_any (h : DC K w B t x g v1 v2 L I) (hl : L.length ≤ 1000000) (a i : Int) : Calls Try.prog 25 #[ptr x, whoV a i] w fun e w' => ∃ v, e = .returned (.int .i64 v) ∧ watK L a i v ∧ Below w.heap.size w w' := by
  obtain ⟨w0, hw0⟩ : ∃ w0, w.alloc (.cells #[.int .i64 a, .int .i64 i] 37) = w0 := ⟨_, rfl⟩
  have B0 : Below w.heap.size w w0 := by rw [← hw0]; exact below_box _ _
  have kb : w0.heap[w.heap.size]? = some (.cells #[.int .i64 a, .int .i64 i] 37) := by rw [← hw0]; exact (MapKept.heap_alloc w _).1
  have m0 := Mv.of_below B0 K (fun _ => 0)
  have h0 := h.mv m0 id id id
  have HC := hid (client_any h0 hl a i)
  have HH := hid h0
  have HB := hid B0
  obtain ⟨A0, hA⟩ : ∃ A0, w.heap.size = A0 := ⟨_, rfl⟩
  rw [hA] at kb HB ⊢
  have k0 : w0.cell? ⟨A0, 0, none⟩ = some (.int .i64 a) := by unfold World.cell?; rw [kb]; rfl
  have k1 : w0.cell? ⟨A0, 1, none⟩ = some (.int .i64 i) := by unfold World.cell?; rw [kb]; rfl
  have HA := hid hA
  clear h h0 m0 B0 kb hl
  go_enter Try.func25, Try.ntmps25
  go_wp2_with fail
  refine HC.out.mono ?_
  rintro _ w1 ⟨v, rfl, hf, hb1⟩
  have hB1 : Below A0 w w1 := HB.out.trans (hb1.mono (by have := HB.out.size; have := HA.out; omega))
  have h1 := HH.out.mv (Mv.of_below hb1 _ (fun _ => 0)) id id id
  have HB1 := hid hB1
  rcases hf with ⟨rfl, hno⟩ | ⟨L1, L2, y, hL, rfl, hy, _⟩
  · have HE : Hid (watK L a i 0) := .inl ⟨rfl, hno⟩
    clear h1 hno hb1 hB1
    go_wp2
    go_ret
    exact ⟨_, rfl, HE.out, HB1.out⟩
  · have HE : Hid (watK L a i y.water) := .inr ⟨y, by rw [hL]; simp, hy, rfl⟩
    obtain ⟨oa, cap, e1, _, hg⟩ := h1.l.form
    subst e1
    have hlen : L.length = L1.length + 1 + L2.length := by rw [hL]; simp; omega
    obtain ⟨g9, hg9⟩ := hg (by omega)
    subst hg9
    have c4 := h1.c4
    obtain ⟨n, hn⟩ : ∃ n, L.length = n := ⟨_, rfl⟩
    have hr := h1.l
    rw [hn] at c4 hr
    have t2 : w1.cell? ⟨g9, L1.length * 3 + 2, none⟩ = some (.int .i64 y.water) := hr.cell knL hn (by rw [hL]; simp) 2 (by omega)
    have hj' : (L1.length : Int) < (n : Int) := by omega
    have hj0 : decide ((L1.length : Int) < 0) = false := by simp
    have hj1 : (0 : Int) ≤ (L1.length : Int) := by omega
    clear h1 hb1 hB1 hy hL hr hlen hn hg
    generalize y.water = yw at *
    generalize L1.length = j at *
    go_wp2
    go_ret
    exact ⟨_, rfl, HE.out, HB1.out⟩
def busS (I : List Sn) (a i seq : Int) (v : Bool) : Prop := (v = false ∧ ∀ y ∈ I, ¬ y.is a i seq) ∨ ∃ L1 L2 y, I = L1 ++ y :: L2 ∧ y.is a i seq ∧ v = !y.dn ∧ ∀ z ∈ L1, ¬ z.is a i seq
theorem dbusy_any (h : DC K w B t x g v1 v2 L I) (hl : I.length ≤ 1000000) (a i seq : Int) : Calls Try.prog 24 #[ptr x, whoV a i, .int .i64 seq] w fun e w' => ∃ v, e = .returned (.bool v) ∧ busS I a i seq v ∧ Below w.heap.size w w' := by
  obtain ⟨w0, hw0⟩ : ∃ w0, w.alloc (.cells #[.int .i64 a, .int .i64 i] 37) = w0 := ⟨_, rfl⟩
  have B0 : Below w.heap.size w w0 := by rw [← hw0]; exact below_box _ _
  have kb : w0.heap[w.heap.size]? = some (.cells #[.int .i64 a, .int .i64 i] 37) := by rw [← hw0]; exact (MapKept.heap_alloc w _).1
  have m0 := Mv.of_below B0 K (fun _ => 0)
  have h0 := h.mv m0 id id id
  have HC := hid (item_any h0 hl a i seq)
  have HH := hid h0
  have HB := hid B0
  obtain ⟨A0, hA⟩ : ∃ A0, w.heap.size = A0 := ⟨_, rfl⟩
  rw [hA] at kb HB ⊢
  have k0 : w0.cell? ⟨A0, 0, none⟩ = some (.int .i64 a) := by unfold World.cell?; rw [kb]; rfl
  have k1 : w0.cell? ⟨A0, 1, none⟩ = some (.int .i64 i) := by unfold World.cell?; rw [kb]; rfl
  have HA := hid hA
  clear h h0 m0 B0 kb hl
  go_enter Try.func24, Try.ntmps24
  go_wp2_with fail
  refine HC.out.mono ?_
  rintro _ w1 ⟨v, rfl, hf, hb1⟩
  have hB1 : Below A0 w w1 := HB.out.trans (hb1.mono (by have := HB.out.size; have := HA.out; omega))
  have h1 := HH.out.mv (Mv.of_below hb1 _ (fun _ => 0)) id id id
  have HB1 := hid hB1
  rcases hf with ⟨rfl, hno⟩ | ⟨L1, L2, y, hL, rfl, hy, hfi⟩
  · have HE : Hid (busS I a i seq false) := .inl ⟨rfl, hno⟩
    clear h1 hno hb1 hB1
    go_wp2
    go_ret
    exact ⟨_, rfl, HE.out, HB1.out⟩
  · have HE : Hid (busS I a i seq (!y.dn)) := .inr ⟨L1, L2, y, hL, hy, rfl, hfi⟩
    obtain ⟨oa, cap, e1, _, hg⟩ := h1.i.form
    subst e1
    have hlen : I.length = L1.length + 1 + L2.length := by rw [hL]; simp; omega
    obtain ⟨g9, hg9⟩ := hg (by omega)
    subst hg9
    have c5 := h1.c5
    obtain ⟨n, hn⟩ : ∃ n, I.length = n := ⟨_, rfl⟩
    have hr := h1.i
    rw [hn] at c5 hr
    have t2 : w1.cell? ⟨g9, L1.length * 5 + 3, none⟩ = some (.bool y.dn) := hr.cell snL hn (by rw [hL]; simp) 3 (by omega)
    have hj' : (L1.length : Int) < (n : Int) := by omega
    have hj0 : decide ((0 : Int) ≤ (L1.length : Int)) = true := by simp
    have hj1 : (0 : Int) ≤ (L1.length : Int) := by omega
    clear h1 hb1 hB1 hy hL hr hlen hn hg hfi
    generalize y.dn = yw at *
    generalize L1.length = j at *
    go_wp2
    go_ret
    exact ⟨_, rfl, HE.out, HB1.out⟩
end
end Go.Proofs.Ytnpffhgmakbdnaa
