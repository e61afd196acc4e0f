/- The document's cache: Done, rises, New. -/
import Derived.Test.YtnpffhgmakbdnaaPlRc
namespace Go.Proofs.Ytnpffhgmakbdnaa
open Go.RowKit
section
variable {K K' : Nat → Nat} {w w' : World} {B t x : Nat} {g : Cf} {v1 v2 : Value} {L : List Kn} {I : List Sn}
/-- what Done makes of the items -/
inductive DoneS (g : Cf) (I : List Sn) (a i seq : Int) (rep : ByteArray) : Int → List Sn → Prop
  | none : (∀ y ∈ I, ¬ y.is a i seq) → DoneS g I a i seq rep 151 I
  | done (L1 L2 : List Sn) (y : Sn) : I = L1 ++ y :: L2 → y.is a i seq → y.dn = true → (∀ z ∈ L1, ¬ z.is a i seq) → DoneS g I a i seq rep 151 I
  | long (L1 L2 : List Sn) (y : Sn) : I = L1 ++ y :: L2 → y.is a i seq → y.dn = false → (∀ z ∈ L1, ¬ z.is a i seq) → g.rs < rep.size → DoneS g I a i seq rep 152 I
  | ok (L1 L2 : List Sn) (y : Sn) : I = L1 ++ y :: L2 → y.is a i seq → y.dn = false → (∀ z ∈ L1, ¬ z.is a i seq) → rep.size ≤ g.rs → DoneS g I a i seq rep 0 (L1 ++ { y with dn := true, rep := rep } :: L2)
def T3 (t : Nat) : Nat → Prop := fun y => y = t ∨ y = t + 1 ∨ y = t + 2
def DonePostS (K : Nat → Nat) (w : World) (B t x : Nat) (g : Cf) (L : List Kn) (I : List Sn) (a i seq : Int) (rep : ByteArray) (e : Ending) (w' : World) : Prop :=
  ∃ v I' K' v1 v2, e = .returned (.int .i64 v) ∧ DoneS g I a i seq rep v I' ∧ DC K' w' B t x g v1 v2 L I' ∧ Mv (T3 t) w w' K K'
set_option maxRecDepth 4000 in
theorem ddone_any (h : DC K w B t x g v1 v2 L I) (hl : I.length ≤ 1000000) (a i seq : Int) (rep : ByteArray) :
    Calls Try.prog 22 #[ptr x, whoV a i, .int .i64 seq, .string rep] w (DonePostS K w B t x g L I a i seq rep) := by
  obtain ⟨w0, hw0⟩ : ∃ w0, w.alloc (.cells #[.int .i64 a, .int .i64 i] 37) = w0 := ⟨_, rfl⟩
  have B0 : Below w.heap.size w w0 := by rw [← hw0]; exact below_box _ _
  have kb : w0.heap[w.heap.size]? = some (.cells #[.int .i64 a, .int .i64 i] 37) := by rw [← hw0]; exact (MapKept.heap_alloc w _).1
  have m0 := Mv.of_below B0 K (fun _ => 0)
  have h0 := h.mv m0 id id id
  have HC := hid (item_any h0 hl a i seq)
  have HH := hid (And.intro h0 m0)
  obtain ⟨A0, hA⟩ : ∃ A0, w.heap.size = A0 := ⟨_, rfl⟩
  rw [hA] at kb
  have k0 : w0.cell? ⟨A0, 0, none⟩ = some (.int .i64 a) := by unfold World.cell?; rw [kb]; rfl
  have k1 : w0.cell? ⟨A0, 1, none⟩ = some (.int .i64 i) := by unfold World.cell?; rw [kb]; rfl
  clear h h0 m0 B0 kb hl
  generalize hPO : DonePostS K w B t x g L I a i seq rep = PO
  have HPO := hid hPO
  clear hPO
  go_enter Try.func22, Try.ntmps22
  go_wp2_with fail
  refine HC.out.mono ?_
  rintro _ w1 ⟨v, rfl, hf, hb1⟩
  have m1 := Mv.of_below hb1 (ext w K (fun _ => 0)) (fun _ => 0)
  have h1 := HH.out.1.mv m1 id id id
  have mt := (HH.out.2.trans m1).mono (T' := T3 t) (fun _ h => h.elim)
  rcases hf with ⟨rfl, hno⟩ | ⟨L1, L2, y, hL, rfl, hy, hfi⟩
  · have HE : Hid (PO (.returned (.int .i64 151)) w1) := by
      rw [← HPO.out]
      exact ⟨_, _, _, _, _, rfl, .none hno, h1, mt⟩
    clear h1 hno hb1 m1 mt
    go_wp2
    exact HE.out
  · obtain ⟨oa, cap, e1, _, hg⟩ := h1.i.form
    subst e1
    have hlen : I.length = L1.length + 1 + L2.length := by rw [hL]; simp; omega
    obtain ⟨g9, hg9⟩ := hg (by omega)
    subst hg9
    have c5 := h1.c5
    have c3 := h1.c3
    obtain ⟨n, hn⟩ : ∃ n, I.length = n := ⟨_, rfl⟩
    have hr := h1.i
    rw [hn] at c5 hr
    have t3 : w1.cell? ⟨g9, L1.length * 5 + 3, none⟩ = some (.bool y.dn) := hr.cell snL hn (by rw [hL]; simp) 3 (by omega)
    have hj' : (L1.length : Int) < (n : Int) := by omega
    have hj0 : decide ((L1.length : Int) < 0) = false := by simp
    have hj1 : (0 : Int) ≤ (L1.length : Int) := by omega
    cases hdn : y.dn
    · rw [hdn] at t3
      by_cases hrs : g.rs < rep.size
      · have d1 : decide ((g.rs : Int) < (rep.size : Int)) = true := by simp; omega
        have d2 : decide (g.rs < rep.size) = true := by simpa using hrs
        have HE : Hid (PO (.returned (.int .i64 152)) w1) := by
          rw [← HPO.out]
          exact ⟨_, _, _, _, _, rfl, .long L1 L2 y hL hy hdn hfi hrs, h1, mt⟩
        clear h1 hb1 m1 mt hy hL hr hlen hn hg hfi hdn hrs
        generalize L1.length = j at *
        go_wp2
        exact HE.out
      · have d1 : decide ((g.rs : Int) < (rep.size : Int)) = false := by simp; omega
        have d2 : decide (g.rs < rep.size) = false := by simpa using hrs
        have hr2 := hr
        rw [hL] at hr2
        have hn2 : (L1 ++ y :: L2).length = n := by rw [← hL]; exact hn
        obtain ⟨s1, q1⟩ := hr2.set1 snL hn2 3 (.bool true) (x' := { y with dn := true }) (by omega) rfl
        obtain ⟨s2, q2⟩ := s1.set1 snL (by rw [← hn2]; simp) 4 (.string rep) (x' := { y with dn := true, rep := rep }) (by omega) rfl
        have f3 := hr.own
        rw [hn] at f3
        have ff3 := f3.frozenAt (L1.length * 5 + 3)
        have o2 := s1.own
        have hn3 : (L1 ++ ({ y with dn := true } : Sn) :: L2).length = n := by rw [← hn2]; simp
        rw [hn3] at o2
        have ff4 := o2.frozenAt (L1.length * 5 + 4)
        have t4 : (w1.setCell ⟨g9, L1.length * 5 + 3, none⟩ (.bool true)).cell? ⟨g9, L1.length * 5 + 4, none⟩ = some (.string y.rep) := s1.cell snL hn3 (x := { y with dn := true }) (by simp) 4 (by omega)
        have c52 : (w1.setCell ⟨g9, L1.length * 5 + 3, none⟩ (.bool true)).cell? ⟨x, 5, none⟩ = some (.slice (some ⟨g9, 0, none⟩) n cap) := by
          have tm := h1.me.mv q1 (by omega)
          unfold World.cell?; rw [tm.at_, hn]; rfl
        have HE : Hid (PO (.returned (.int .i64 0)) ((w1.setCell ⟨g9, L1.length * 5 + 3, none⟩ (.bool true)).setCell ⟨g9, L1.length * 5 + 4, none⟩ (.string rep))) := by
          rw [← HPO.out]
          refine ⟨_, _, _, _, _, rfl, .ok L1 L2 y hL hy hdn hfi (by omega), ⟨(h1.me.mv q1 (by omega)).mv q2 (by omega), (h1.l.mv q1 (by omega)).mv q2 (by omega), ?_⟩, mt.trans ((q1.trans q2).mono (fun _ h => .inr (.inr h)))⟩
          rw [hn]
          exact s2
        clear h1 hb1 m1 mt hy hL hr hlen hn hg hfi hdn hrs hr2 hn2 s1 q1 s2 q2 f3 o2 hn3
        generalize L1.length = j at *
        generalize y.rep = yr at *
        go_wp2
        exact HE.out
    · rw [hdn] at t3
      have HE : Hid (PO (.returned (.int .i64 151)) w1) := by
        rw [← HPO.out]
        exact ⟨_, _, _, _, _, rfl, .done L1 L2 y hL hy hdn hfi, h1, mt⟩
      clear h1 hb1 m1 mt hy hL hr hlen hn hg hfi hdn
      generalize L1.length = j at *
      go_wp2
      exact HE.out
theorem dnew_good (w : World) (K : Nat → Nat) (B t : Nat) (g : Cf) (hg : CfOk g) : Calls Try.prog 8 #[cfV g] w fun e w' => ∃ x K', e = .returned (.tuple #[ptr x, .int .i64 0]) ∧ DC K' w' B t x g (.slice none 0 0) (.slice none 0 0) [] [] ∧ Mv (fun _ => False) w w' K K' := by
  obtain ⟨c, e, b, r⟩ := g
  have h1 := hg.c; have h2 := hg.e; have h3 := hg.r; have h4 := hg.b
  simp only at h1 h2 h3 h4
  obtain ⟨ci, hci⟩ : ∃ ci : Int, (c : Int) = ci := ⟨_, rfl⟩
  obtain ⟨ei, hei⟩ : ∃ ei : Int, (e : Int) = ei := ⟨_, rfl⟩
  obtain ⟨bi, hbi⟩ : ∃ bi : Int, (b : Int) = bi := ⟨_, rfl⟩
  obtain ⟨ri, hri⟩ : ∃ ri : Int, (r : Int) = ri := ⟨_, rfl⟩
  simp only [cfV, hci, hei, hbi, hri]
  have d1 : decide (ci < 1) = false := by simp; omega
  have d2 : decide (64 < ci) = false := by simp; omega
  have d3 : decide (ei < 1) = false := by simp; omega
  have d4 : decide (64 < ei) = false := by simp; omega
  have d5 : decide (ri < 64) = false := by simp; omega
  have d6 : decide (1100 < ri) = false := by simp; omega
  have d7 : decide (bi < ri) = false := by simp; omega
  have d8 : decide (1048576 < bi) = false := by simp; omega
  obtain ⟨w0, hw0⟩ : ∃ w0, w.alloc (.cells #[.int .i64 ci, .int .i64 ei, .int .i64 bi, .int .i64 ri] 23) = w0 := ⟨_, rfl⟩
  have kb : w0.heap[w.heap.size]? = some (.cells #[.int .i64 ci, .int .i64 ei, .int .i64 bi, .int .i64 ri] 23) := by rw [← hw0]; exact (MapKept.heap_alloc w _).1
  obtain ⟨A0, hA⟩ : ∃ A0, w.heap.size = A0 := ⟨_, rfl⟩
  obtain ⟨w1, hw1⟩ : ∃ w1, w0.alloc (.cells #[.int .i64 ci, .int .i64 ei, .int .i64 bi, .int .i64 ri, .slice none 0 0, .slice none 0 0] 71) = w1 := ⟨_, rfl⟩
  obtain ⟨A1, hA1⟩ : ∃ A1, w0.heap.size = A1 := ⟨_, rfl⟩
  have HE : Hid (∃ K', DC K' w1 B t A1 ⟨c, e, b, r⟩ (.slice none 0 0) (.slice none 0 0) [] [] ∧ Mv (fun _ => False) w w1 K K') := by
    have v0 := Mv.alloc w K (fun _ => 0) (.cells #[.int .i64 ci, .int .i64 ei, .int .i64 bi, .int .i64 ri] 23)
    rw [hw0] at v0
    have v1 := Mv.alloc w0 (ext w K (fun _ => 0)) (fun _ => t) (.cells #[.int .i64 ci, .int .i64 ei, .int .i64 bi, .int .i64 ri, .slice none 0 0, .slice none 0 0] 71)
    have t1 := TB.new w0 (ext w K (fun _ => 0)) (fun _ => t) (.cells #[.int .i64 ci, .int .i64 ei, .int .i64 bi, .int .i64 ri, .slice none 0 0, .slice none 0 0] 71) (t := t) rfl
    rw [hw1] at v1 t1
    rw [hA1] at t1
    rw [← hci, ← hei, ← hbi, ← hri] at t1
    exact ⟨_, ⟨t1, RW.nil _ _ _ _ _ _ _, RW.nil _ _ _ _ _ _ _⟩, v0.trans v1⟩
  rw [hA] at kb
  have c0 : w0.cell? ⟨A0, 0, none⟩ = some (.int .i64 ci) := by unfold World.cell?; rw [kb]; rfl
  have c1 : w0.cell? ⟨A0, 1, none⟩ = some (.int .i64 ei) := by unfold World.cell?; rw [kb]; rfl
  have c2 : w0.cell? ⟨A0, 2, none⟩ = some (.int .i64 bi) := by unfold World.cell?; rw [kb]; rfl
  have c3 : w0.cell? ⟨A0, 3, none⟩ = some (.int .i64 ri) := by unfold World.cell?; rw [kb]; rfl
  clear kb h1 h2 h3 h4 hci hei hbi hri hg
  go_enter Try.func8, Try.ntmps8
  go_wp2
  go_ret2
  obtain ⟨K', q1, q2⟩ := HE.out
  exact ⟨A1, K', rfl, q1, q2⟩
end
end Go.Proofs.Ytnpffhgmakbdnaa
