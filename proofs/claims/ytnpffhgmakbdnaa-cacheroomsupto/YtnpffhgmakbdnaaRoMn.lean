/- Done. -/
import Derived.Test.YtnpffhgmakbdnaaRoYf
namespace Go.Proofs.Ytnpffhgmakbdnaa
open Go.RowKit
section
variable {w w' : World} {p mm : Nat} {g : Cf} {A B C : List Cl} {c c' : Cl}
/-- what Done makes of a cache -/
inductive DoneR (g : Cf) (C : List Cl) (a i seq : Int) (rep : ByteArray) : Int → List Cl → Prop
  | none : (∀ c ∈ C, c.is a i → busyE (enAt c.ents seq) = false) → DoneR g C a i seq rep 151 C
  | long (c : Cl) : c ∈ C → c.is a i → busyE (enAt c.ents seq) = true → g.rs < rep.size → DoneR g C a i seq rep 152 C
  | ok (A B : List Cl) (c : Cl) (E1 E2 : List En) (e : En) : C = A ++ c :: B → c.is a i → c.ents = E1 ++ e :: E2 → e.seq = seq → e.ans = false → rep.size ≤ g.rs → DoneR g C a i seq rep 0 (A ++ { c with ents := E1 ++ ⟨seq, true, rep⟩ :: E2 } :: B)
def DonePost (w : World) (p : Nat) (g : Cf) (mm : Nat) (C : List Cl) (a i seq : Int) (rep : ByteArray) (e : Ending) (w' : World) : Prop :=
  ∃ v C', e = .returned (.int .i64 v) ∧ DoneR g C a i seq rep v C' ∧ PC w' p g mm C' ∧ Chg (foot p mm C) (foot p mm C') w w'
theorem same_who (h : StOk g C) {c d : Cl} (hc : c ∈ C) (hd : d ∈ C) {a i : Int} (h1 : c.is a i) (h2 : d.is a i) : c = d :=
  nd_inj h.who hc hd (by rw [h1.1, h1.2, h2.1, h2.2])
theorem Busy_any (h : PC w p g mm C) {a i seq : Int} (hw : InW a i) (hs : -9223372036854775808 ≤ seq ∧ seq ≤ 9223372036854775807) :
    Calls Try.prog 23 #[ptr p, whoV a i, .int .i64 seq] w fun r w' => ∃ q, r = .returned (.bool q) ∧ (q = false → ∀ c ∈ C, c.is a i → busyE (enAt c.ents seq) = false) ∧ (q = true → ∃ c ∈ C, c.is a i ∧ busyE (enAt c.ents seq) = true) ∧ Below w.heap.size w w' := by
  by_cases hn : ∃ c ∈ C, c.is a i
  · obtain ⟨c, hc, hi⟩ := hn
    refine (Busy_yes h hc hi hs).mono ?_
    rintro r w' ⟨rfl, hB⟩
    exact ⟨_, rfl, fun e d hd hdi => by rw [same_who h.st hd hc hdi hi]; exact e, fun e => ⟨c, hc, hi, e⟩, hB⟩
  · refine (Busy_no h hw (fun c hc e => hn ⟨c, hc, e⟩) seq).mono ?_
    rintro r w' ⟨rfl, hB⟩
    exact ⟨_, rfl, fun _ d hd hdi => absurd ⟨d, hd, hdi⟩ hn, (fun e => by cases e), hB⟩
theorem done_ok {g : Cf} {c : Cl} {E1 E2 : List En} {e : En} {rep : ByteArray} (h : ClOk g c) (he : c.ents = E1 ++ e :: E2) (hr : rep.size ≤ g.rs) : ClOk g { c with ents := E1 ++ ⟨e.seq, true, rep⟩ :: E2 } := by
  refine ⟨h.a, h.i, h.w, fun x hx => ?_, ?_, ?_⟩
  · have hm : ∀ y, y ∈ E1 ++ E2 → EnOk g c.water y := fun y hy => h.en y (by rw [he]; rcases List.mem_append.1 hy with q | q <;> simp [q])
    rcases List.mem_append.1 hx with q | q
    · exact hm x (by simp [q])
    · rcases List.mem_cons.1 q with q | q
      · have h1 := h.en e (by rw [he]; simp)
        rw [q]
        exact ⟨h1.lo, h1.hi, hr, fun q => by cases q⟩
      · exact hm x (by simp [q])
  · have := h.nd
    rw [he] at this
    simpa using this
  · have := h.len
    rw [he] at this
    simpa using this
theorem busy_find {l : List En} {seq : Int} (h : busyE (enAt l seq) = true) : ∃ E1 E2 e, l = E1 ++ e :: E2 ∧ e.seq = seq ∧ e.ans = false := by
  cases h1 : enAt l seq with
  | none => rw [h1] at h; cases h
  | some e =>
    rw [h1] at h
    obtain ⟨q1, q2⟩ := enAt_some h1
    obtain ⟨E1, E2, q3⟩ := ty_of_mem q1
    exact ⟨E1, E2, e, q3, q2, by simpa [busyE] using h⟩
set_option maxRecDepth 4000 in
theorem done_none (h : PC w p g mm C) {a i seq : Int} {rep : ByteArray} (hw : InW a i) (hs : -9223372036854775808 ≤ seq ∧ seq ≤ 9223372036854775807) (hn : ∀ c ∈ C, c.is a i → busyE (enAt c.ents seq) = false) :
    Calls Try.prog 12 #[ptr p, whoV a i, .int .i64 seq, .string rep] w (DonePost w p g mm C a i seq rep) := by
  obtain ⟨w0, hw0⟩ : ∃ w0, w.alloc (.cells #[.int .i64 a, .int .i64 i] 37) = w0 := ⟨_, rfl⟩
  have B0 : Below w.heap.size w w0 := by rw [← hw0]; exact below_box _ _
  have kb : w0.heap[w.heap.size]? = some (.cells #[.int .i64 a, .int .i64 i] 37) := by rw [← hw0]; exact (MapKept.heap_alloc w _).1
  obtain ⟨A0, hA⟩ : ∃ A0, w.heap.size = A0 := ⟨_, rfl⟩
  have HS : Hid (A0 < w0.heap.size) := by rw [← hA]; exact (Array.getElem?_eq_some_iff.1 kb).1
  have HB := hid B0
  rw [hA] at kb
  have HK := hid kb
  have k0 : w0.cell? ⟨A0, 0, none⟩ = some (.int .i64 a) := by unfold World.cell?; rw [kb]; rfl
  have k1 : w0.cell? ⟨A0, 1, none⟩ = some (.int .i64 i) := by unfold World.cell?; rw [kb]; rfl
  have HE : Hid (∀ w1, Below w0.heap.size w0 w1 → DonePost w p g mm C a i seq rep (.returned (.int .i64 151)) w1) := fun w1 hb1 => by
    have be : Below w.heap.size w w1 := B0.trans (hb1.mono B0.size)
    exact ⟨_, _, rfl, .none hn, h.below be, Chg.of_below _ be⟩
  have HU : Hid (Calls Try.prog 23 #[ptr p, whoV a i, .int .i64 seq] w0 fun r w' => r = .returned (.bool false) ∧ Below w0.heap.size w0 w') := by
    refine (Busy_any (h.below B0) hw hs).mono ?_
    rintro r w' ⟨q, rfl, _, q2, hB⟩
    refine ⟨?_, hB⟩
    cases q
    · rfl
    · obtain ⟨c, hc, hi, e⟩ := q2 rfl
      rw [hn c hc hi] at e
      cases e
  clear h B0 kb hn hw hs
  generalize DonePost w p g mm C a i seq rep = PO at *
  go_enter Try.func12, Try.ntmps12
  go_wp2_with fail
  refine HU.out.mono ?_
  rintro _ w1 ⟨rfl, hb1⟩
  have HX := hid (HE.out w1 hb1)
  clear hb1
  go_wp2
  exact HX.out
theorem busy_true (h : PC w p g mm C) {a i seq : Int} (hw : InW a i) (hs : -9223372036854775808 ≤ seq ∧ seq ≤ 9223372036854775807) {c : Cl} (hc : c ∈ C) (hi : c.is a i) (hb : busyE (enAt c.ents seq) = true) :
    Calls Try.prog 23 #[ptr p, whoV a i, .int .i64 seq] w fun r w' => r = .returned (.bool true) ∧ Below w.heap.size w w' := by
  refine (Busy_any h hw hs).mono ?_
  rintro r w' ⟨q, rfl, q1, _, hB⟩
  refine ⟨?_, hB⟩
  cases q
  · have := q1 rfl c hc hi
    rw [hb] at this
    cases this
  · rfl
set_option maxRecDepth 4000 in
theorem done_long (h : PC w p g mm C) {a i seq : Int} {rep : ByteArray} (hw : InW a i) (hs : -9223372036854775808 ≤ seq ∧ seq ≤ 9223372036854775807) {c : Cl} (hc : c ∈ C) (hi : c.is a i) (hb : busyE (enAt c.ents seq) = true) (hr : g.rs < rep.size) :
    Calls Try.prog 12 #[ptr p, whoV a i, .int .i64 seq, .string rep] w (DonePost w p g mm C a i seq rep) := by
  obtain ⟨w0, hw0⟩ : ∃ w0, w.alloc (.cells #[.int .i64 a, .int .i64 i] 37) = w0 := ⟨_, rfl⟩
  have B0 : Below w.heap.size w w0 := by rw [← hw0]; exact below_box _ _
  have kb : w0.heap[w.heap.size]? = some (.cells #[.int .i64 a, .int .i64 i] 37) := by rw [← hw0]; exact (MapKept.heap_alloc w _).1
  obtain ⟨A0, hA⟩ : ∃ A0, w.heap.size = A0 := ⟨_, rfl⟩
  have HS : Hid (A0 < w0.heap.size) := by rw [← hA]; exact (Array.getElem?_eq_some_iff.1 kb).1
  have HB := hid B0
  rw [hA] at kb
  have HK := hid kb
  have k0 : w0.cell? ⟨A0, 0, none⟩ = some (.int .i64 a) := by unfold World.cell?; rw [kb]; rfl
  have k1 : w0.cell? ⟨A0, 1, none⟩ = some (.int .i64 i) := by unfold World.cell?; rw [kb]; rfl
  have HE : Hid (∀ w1, Below w0.heap.size w0 w1 → DonePost w p g mm C a i seq rep (.returned (.int .i64 152)) w1 ∧ w1.cell? ⟨p, 3, none⟩ = some (.int .i64 g.rs)) := fun w1 hb1 => by
    have be : Below w.heap.size w w1 := B0.trans (hb1.mono B0.size)
    exact ⟨⟨_, _, rfl, .long c hc hi hb hr, h.below be, Chg.of_below _ be⟩, (h.below be).c3⟩
  have HU := hid (busy_true (h.below B0) hw hs hc hi hb)
  have hd : decide ((g.rs : Int) < (rep.size : Int)) = true := by simp; omega
  have hdn : decide (g.rs < rep.size) = true := by simpa using hr
  clear h B0 kb hw hs hc hi hb hr
  generalize DonePost w p g mm C a i seq rep = PO at *
  go_enter Try.func12, Try.ntmps12
  go_wp2_with fail
  refine HU.out.mono ?_
  rintro _ w1 ⟨rfl, hb1⟩
  obtain ⟨h1, z3⟩ := HE.out w1 hb1
  have HX := hid h1
  clear hb1 h1
  go_wp2
  exact HX.out
set_option maxRecDepth 4000 in
theorem done_good {a i seq : Int} {rep : ByteArray} {E1 E2 : List En} {e : En} (h : PC w p g mm (A ++ c :: B)) (hi : c.is a i) (he : c.ents = E1 ++ e :: E2) (hsq : e.seq = seq) (hans : e.ans = false) (hr : rep.size ≤ g.rs) :
    Calls Try.prog 12 #[ptr p, whoV a i, .int .i64 seq, .string rep] w (DonePost w p g mm (A ++ c :: B) a i seq rep) := by
  have hcm : c ∈ A ++ c :: B := by simp
  have hok := h.st.cl c hcm
  have hen : e ∈ c.ents := by rw [he]; simp
  have hw : InW a i := ⟨by have := hok.a; have := hi.1; omega, by have := hok.i; have := hi.2; omega⟩
  have hs : -9223372036854775808 ≤ seq ∧ seq ≤ 9223372036854775807 := by have := (hok.en e hen).lo; have := (hok.en e hen).hi; have := hok.w; omega
  have hb : busyE (enAt c.ents seq) = true := by rw [← hsq, enAt_is hok.nd hen]; simp [busyE, hans]
  have hby := hok.byt_le h.ok
  have hrs := h.ok.r
  have hbe : byt g.rs c.ents = byt g.rs E1 + g.rs + byt g.rs E2 := by rw [he]; simp [byt, sz, hans]; omega
  obtain ⟨bn, hbn⟩ : ∃ bn, byt g.rs c.ents = bn := ⟨_, rfl⟩
  have hsum : wrap64 ((bn : Int) + wrap64 ((rep.size : Int) - (g.rs : Int))) = ((byt g.rs (E1 ++ ⟨seq, true, rep⟩ :: E2) : Nat) : Int) := by
    have : byt g.rs (E1 ++ ⟨seq, true, rep⟩ :: E2) = byt g.rs E1 + rep.size + byt g.rs E2 := by simp [byt, sz]; omega
    rw [this]
    unfold wrap64
    omega
  obtain ⟨w0, hw0⟩ : ∃ w0, w.alloc (.cells #[.int .i64 a, .int .i64 i] 37) = w0 := ⟨_, rfl⟩
  have B0 : Below w.heap.size w w0 := by rw [← hw0]; exact below_box _ _
  have kb : w0.heap[w.heap.size]? = some (.cells #[.int .i64 a, .int .i64 i] 37) := by rw [← hw0]; exact (MapKept.heap_alloc w _).1
  obtain ⟨A0, hA⟩ : ∃ A0, w.heap.size = A0 := ⟨_, rfl⟩
  have HS : Hid (A0 < w0.heap.size) := by rw [← hA]; exact (Array.getElem?_eq_some_iff.1 kb).1
  have HB := hid B0
  rw [hA] at kb
  have HK := hid kb
  have k0 : w0.cell? ⟨A0, 0, none⟩ = some (.int .i64 a) := by unfold World.cell?; rw [kb]; rfl
  have k1 : w0.cell? ⟨A0, 1, none⟩ = some (.int .i64 i) := by unfold World.cell?; rw [kb]; rfl
  have HU := hid (busy_true (h.below B0) hw hs hcm hi hb)
  have hd : decide ((g.rs : Int) < (rep.size : Int)) = false := by simp; omega
  have hdn : decide (g.rs < rep.size) = false := by simpa using hr
  have HP := hid (h.below B0)
  have HSU := hid hsum
  have HLIM : Hid (rep.size ≤ 281474976710656) := by show rep.size ≤ _; omega
  have HALL := hid (And.intro hi (And.intro he (And.intro hsq (And.intro hans hr))))
  have HBN := hid hbn
  have HOK := hid hok
  have htot : tot g.rs (A ++ { c with ents := E1 ++ ⟨seq, true, rep⟩ :: E2 } :: B) ≤ g.by_ := by
    have h1 := h.st.tot
    rw [tot_mid] at h1 ⊢
    have : byt g.rs (E1 ++ ⟨seq, true, rep⟩ :: E2) = byt g.rs E1 + rep.size + byt g.rs E2 := by simp [byt, sz]; omega
    simp only
    omega
  have HT := hid htot
  clear h B0 kb hw hs hb hby hrs hbe hbn hsum hok hen hi he hsq hans hr htot hcm
  generalize hPO : DonePost w p g mm (A ++ c :: B) a i seq rep = PO at *
  have HPO := hid hPO
  clear hPO
  go_enter Try.func12, Try.ntmps12
  go_wp2_with fail
  refine HU.out.mono ?_
  rintro _ w1 ⟨rfl, hb1⟩
  have hP1 := HP.out.below hb1
  have z3 := hP1.c3
  have z4 := hP1.c4
  have kk : w1.heap[A0]? = _ := (hb1.block _ HS.out).trans HK.out
  have y0 : w1.cell? ⟨A0, 0, none⟩ = some (.int .i64 a) := by unfold World.cell?; rw [kk]; rfl
  have y1 : w1.cell? ⟨A0, 1, none⟩ = some (.int .i64 i) := by unfold World.cell?; rw [kk]; rfl
  have hl := (look_yes hP1.drew (c := c) (by simp) HALL.out.1).2
  have HP1 := hid hP1
  have HB1 : Hid (Below w.heap.size w w1) := HB.out.trans (hb1.mono HB.out.size)
  clear hb1 hP1 kk
  obtain ⟨cb, hcb⟩ : ∃ cb, c.b = cb := ⟨_, rfl⟩
  have HCB := hid hcb
  rw [hcb] at hl
  have x1 := cl1 (HP1.out.cl c (by simp)).1
  have xf := clf (HP1.out.cl c (by simp)).1 1
  have x2 := cl2 (HP1.out.cl c (by simp)).1
  rw [HBN.out, hcb] at x1
  rw [hcb] at xf x2
  clear hcb
  go_wp2_with fail
  go_region
  all_goals (
    go_wp2_with fail
    go_region
    all_goals (
      rw [HSU.out]
      obtain ⟨w2, hw2⟩ : ∃ w2, (w1.setCell ⟨cb, 1, none⟩ (.int .i64 ((byt g.rs (E1 ++ ⟨seq, true, rep⟩ :: E2) : Nat) : Int))).drew.drew = w2 := ⟨_, rfl⟩
      rw [hw2]
      have HCL : Hid (∀ j, Calls Try.prog 29 #[.string rep] (w2.drewN j) fun e w' => e = .returned (.string rep) ∧ Below w2.heap.size (w2.drewN j) w') := fun j => clone_any rep (w2.drewN j) HLIM.out
      have x22 : w2.cell? ⟨cb, 2, none⟩ = some (.map (some c.m)) := by
        rw [← hw2]
        have := set1 (w := w1) (HP1.out.cl c (by simp)).1 ((byt g.rs (E1 ++ ⟨seq, true, rep⟩ :: E2) : Nat) : Int)
        rw [HCB.out] at this
        show (w1.setCell ⟨cb, 1, none⟩ _).cell? ⟨cb, 2, none⟩ = _
        unfold World.cell?
        rw [this]
        rfl
      have HEND : Hid (∀ j w5, Below w2.heap.size (w2.drewN j) w5 → w5.cell? ⟨cb, 2, none⟩ = some (.map (some c.m)) ∧ ∃ w6, (Instr.mapUpdate 74 (.map (some c.m)) (.int .i64 seq) (.agg #[.bool true, .string rep])).run Try.prog w5 = .ok () w6 ∧ PO (.returned (.int .i64 0)) w6) := fun j w5 hb5 => by
        obtain ⟨r1, r2, r3, r4, r5⟩ := HALL.out
        have s2 : w2.heap.size = w1.heap.size := by rw [← hw2]; show (w1.setCell _ _).heap.size = _; simp
        have hcl := HP1.out.at (c := c) (by simp)
        have hbl := set1 (w := w1) (HP1.out.cl c (by simp)).1 ((byt g.rs (E1 ++ ⟨seq, true, rep⟩ :: E2) : Nat) : Int)
        have hb2 : w2.heap[c.b]? = some (clO g { c with ents := E1 ++ ⟨seq, true, rep⟩ :: E2 }) := by rw [← hw2, ← HCB.out]; exact hbl
        have hm2 : MM kdE w2 c.m (E1 ++ e :: E2) := by
          rw [← r2]
          refine hcl.mp.kept ?_
          rw [← hw2, ← HCB.out]
          exact Below.heap_setCell _ _ _ _ (fun q => hcl.ne q.symm)
        have ok2 : Ok kdE (E1 ++ e :: E2) := by rw [← r2]; exact okE HOK.out
        have hlt := hcl.lt
        have hm5 : MM kdE w5 c.m (E1 ++ e :: E2) := hm2.kept (hb5.block _ (by omega))
        obtain ⟨w6, q1, q2, q3⟩ := hm5.again ok2 (y := ⟨seq, true, rep⟩) (by simp [kdE, r3])
        have hb5b : w5.heap[c.b]? = _ := (hb5.block _ (by omega)).trans hb2
        have hC6 : CL w6 g { c with ents := E1 ++ ⟨seq, true, rep⟩ :: E2 } := ⟨(q3.kept _ hcl.ne).trans hb5b, q2⟩
        have hch : Chg [c.b, c.m] [c.b, c.m] w1 w6 := by
          have t1 : Chg [c.b, c.m] [c.b, c.m] w1 w2 := by
            rw [← hw2, ← HCB.out]
            exact (Chg.set w1 _ _ (by simp)).trans ((Chg.drew _ _).trans (Chg.drew _ _))
          exact t1.trans (Chg.trans (b := w5) (Chg.of_below (w := w2) _ ⟨hb5.os, hb5.tape, hb5.output, hb5.size, hb5.block⟩) (q3.chg (by simp)))
        have hoo : ClOk g { c with ents := E1 ++ ⟨seq, true, rep⟩ :: E2 } := by
          have := done_ok (rep := rep) HOK.out r2 r5
          rwa [r3] at this
        obtain ⟨t1, t2⟩ := HP1.out.upd (c' := { c with ents := E1 ++ ⟨seq, true, rep⟩ :: E2 }) ⟨rfl, rfl, rfl, rfl⟩ hC6 hch hoo HT.out
        refine ⟨?_, w6, ?_, ?_⟩
        · exact (World.cell?_of_block (a := ⟨cb, 2, none⟩) (hb5.block cb (by rw [← HCB.out]; omega))).trans x22
        · have q1' := q1
          rw [show (kdE.f e).1 = .int .i64 seq by simp [kdE, r3]] at q1'
          exact q1'
        · rw [← HPO.out]
          exact ⟨0, _, rfl, .ok A B c E1 E2 e rfl r1 r2 r3 r4 r5, t1, (Chg.of_below _ HB1.out).trans t2⟩
      go_wp2_with fail
      rename_i K0 a0
      have A0' : Hid (∀ a w, _ → K0 a w) := a0
      clear a0
      go_region_with (first
        | (go_at_call 29
           refine (HCL.out _).mono ?_
           rintro e w5 ⟨rfl, hB5⟩
           obtain ⟨x52, w6, hmu, hpo⟩ := HEND.out _ w5 hB5
           have HPP := hid hpo
           clear hB5 hpo))
      all_goals (
        have a0 := A0'.out
        clear A0'
        go_wp2
        exact HPP.out)))
theorem done_any (h : PC w p g mm C) {a i seq : Int} (rep : ByteArray) (hw : InW a i) (hs : -9223372036854775808 ≤ seq ∧ seq ≤ 9223372036854775807) :
    Calls Try.prog 12 #[ptr p, whoV a i, .int .i64 seq, .string rep] w (DonePost w p g mm C a i seq rep) := by
  by_cases hn : ∃ c ∈ C, c.is a i ∧ busyE (enAt c.ents seq) = true
  · obtain ⟨c, hc, hi, hb⟩ := hn
    by_cases hr : g.rs < rep.size
    · exact done_long h hw hs hc hi hb hr
    · obtain ⟨A, B, rfl⟩ := ty_of_mem hc
      obtain ⟨E1, E2, e, q1, q2, q3⟩ := busy_find hb
      exact done_good h hi q1 q2 q3 (by omega)
  · refine done_none h hw hs fun c hc hi => ?_
    cases hb : busyE (enAt c.ents seq)
    · rfl
    · exact absurd ⟨c, hc, hi, hb⟩ hn
end
end Go.Proofs.Ytnpffhgmakbdnaa
