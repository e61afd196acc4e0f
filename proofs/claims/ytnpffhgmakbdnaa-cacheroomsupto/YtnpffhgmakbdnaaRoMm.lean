/- Ask. -/
import Derived.Test.YtnpffhgmakbdnaaRoMl
namespace Go.Proofs.Ytnpffhgmakbdnaa
open Go.RowKit
section
variable {w w' : World} {p mm : Nat} {g : Cf} {A B C : List Cl} {c c' : Cl}
/-- askKnown, whatever comes -/
theorem known_any {a i seq water : Int} (h : PC w p g mm (A ++ raiseC c water :: B)) (hi : c.is a i) (hs : inB seq 1 4294967295 = true) (hw : inB water 1 4294967295 = true) :
    Calls Try.prog 33 #[ptr p, ptr (raiseC c water).b, .int .i64 seq] w fun e w' => ∃ v s C', e = .returned (.tuple #[.int .i64 v, .string s]) ∧ AskR g (A ++ c :: B) a i seq water v s C' ∧ PC w' p g mm C' ∧ Chg (foot p mm (A ++ raiseC c water :: B)) (foot p mm C') w w' := by
  have hc : raiseC c water ∈ A ++ raiseC c water :: B := by simp
  have hsq := inB_is hs
  by_cases h1 : seq < (raiseC c water).water
  · refine (known_old h hc h1).mono ?_
    rintro e w' ⟨rfl, rfl⟩
    exact ⟨_, _, _, rfl, .old A B c rfl hi hs hw h1, h, Chg.refl _ _⟩
  · cases h2 : enAt (raiseC c water).ents seq with
    | some e =>
      obtain ⟨h3, rfl⟩ := enAt_some h2
      refine (known_en h hc h3).mono ?_
      rintro r w' ⟨rfl, hB⟩
      exact ⟨_, _, _, rfl, .there A B c e rfl hi hs hw h3 rfl, h.below hB, Chg.of_below _ hB⟩
    | none =>
      by_cases h3 : g.en ≤ (raiseC c water).ents.length
      · refine (known_many h hc hsq h1 h2 h3).mono ?_
        rintro r w' ⟨rfl, hB⟩
        exact ⟨_, _, _, rfl, .full A B c rfl hi hs hw h1 h2 (.inl h3), h.below hB, Chg.of_below _ hB⟩
      · by_cases h4 : tot g.rs (A ++ raiseC c water :: B) + g.rs ≤ g.by_
        · refine (known_new h hsq h1 h2 (by omega) h4).mono ?_
          rintro r w' ⟨rfl, q1, q2⟩
          exact ⟨_, _, _, rfl, .new A B c rfl hi hs hw h1 h2 (by omega) h4, q1, q2⟩
        · refine (known_room h hc hsq h1 h2 (by omega) h4).mono ?_
          rintro r w' ⟨rfl, hB⟩
          exact ⟨_, _, _, rfl, .full A B c rfl hi hs hw h1 h2 (.inr h4), h.below hB, Chg.of_below _ hB⟩
theorem other_any {a i seq water : Int} (h : PC w p g mm C) (hn : ∀ c ∈ C, ¬ c.is a i) (ha : inB a 1 16777215 = true) (hi : inB i 1 4611686018427387904 = true) (hs : inB seq 1 4294967295 = true) (hw : inB water 1 4294967295 = true) :
    Calls Try.prog 34 #[ptr p, whoV a i, .int .i64 seq, .int .i64 water] w fun e w' => ∃ v C', e = .returned (.int .i64 v) ∧ AskR g C a i seq water v ⟨#[]⟩ C' ∧ PC w' p g mm C' ∧ Chg (foot p mm C) (foot p mm C') w w' := by
  by_cases h1 : seq < water
  · refine (other_old a i seq water h1).mono ?_
    rintro r w' ⟨rfl, hB⟩
    exact ⟨_, _, rfl, .oldU hn ha hi hs hw h1, h.below hB, Chg.of_below _ hB⟩
  · by_cases h2 : g.cl ≤ C.length
    · refine (other_many h a i seq water h1 h2).mono ?_
      rintro r w' ⟨rfl, hB⟩
      exact ⟨_, _, rfl, .fullU hn ha hi hs hw h1 (.inl h2), h.below hB, Chg.of_below _ hB⟩
    · by_cases h4 : tot g.rs C + g.rs ≤ g.by_
      · refine (other_new h a i seq water (inB_is ha) (inB_is hi) (inB_is hw) (inB_is hs) hn h1 (by omega) h4).mono ?_
        rintro r w' ⟨rfl, b, m, q1, q2⟩
        exact ⟨_, _, rfl, .newU b m hn ha hi hs hw h1 (by omega) h4, q1, q2⟩
      · refine (other_room h a i seq water h1 (by omega) h4).mono ?_
        rintro r w' ⟨rfl, hB⟩
        exact ⟨_, _, rfl, .fullU hn ha hi hs hw h1 (.inr h4), h.below hB, Chg.of_below _ hB⟩
set_option maxRecDepth 4000 in
theorem ask_bad {a i seq water : Int} (h : PC w p g mm C) (hb : ¬ (inB a 1 16777215 = true ∧ inB i 1 4611686018427387904 = true ∧ inB seq 1 4294967295 = true ∧ inB water 1 4294967295 = true)) :
    Calls Try.prog 14 #[ptr p, whoV a i, .int .i64 seq, .int .i64 water] w (AskPost w p g mm C a i seq water) := by
  obtain ⟨w0, hw0⟩ : ∃ w0, w.alloc (.cells #[.int .i64 a, .int .i64 i] 37) = w0 := ⟨_, rfl⟩
  have B0 : Below w.heap.size w w0 := by rw [← hw0]; exact below_box _ _
  have kb : w0.heap[w.heap.size]? = some (.cells #[.int .i64 a, .int .i64 i] 37) := by rw [← hw0]; exact (MapKept.heap_alloc w _).1
  have H1 := hid (isClient_any w0 a i)
  obtain ⟨A0, hA⟩ : ∃ A0, w.heap.size = A0 := ⟨_, rfl⟩
  have HS : Hid (A0 < w0.heap.size) := by rw [← hA]; exact (Array.getElem?_eq_some_iff.1 kb).1
  rw [hA] at kb
  have HK := hid kb
  have k0 : w0.cell? ⟨A0, 0, none⟩ = some (.int .i64 a) := by unfold World.cell?; rw [kb]; rfl
  have k1 : w0.cell? ⟨A0, 1, none⟩ = some (.int .i64 i) := by unfold World.cell?; rw [kb]; rfl
  have HE : Hid (∀ w1, Below w0.heap.size w0 w1 → AskPost w p g mm C a i seq water (.returned (.tuple #[.int .i64 4, .string ⟨#[]⟩])) w1) := fun w1 hb1 => by
    have be : Below w.heap.size w w1 := B0.trans (hb1.mono B0.size)
    exact ⟨_, _, _, rfl, .bad hb, h.below be, Chg.of_below _ be⟩
  clear h B0 kb
  cases h1 : (inB a 1 16777215 && inB i 1 4611686018427387904) <;> rw [h1] at H1
  · clear hb h1
    generalize AskPost w p g mm C a i seq water = PO at *
    go_enter Try.func14, Try.ntmps14
    go_wp2_with fail
    refine H1.out.mono ?_
    rintro _ w1 ⟨rfl, hb1⟩
    have HX := hid (HE.out w1 hb1)
    clear hb1
    go_wp2
    exact HX.out
  cases h2 : inB seq 1 4294967295
  · clear hb h1
    generalize AskPost w p g mm C a i seq water = PO at *
    go_enter Try.func14, Try.ntmps14
    go_wp2_with fail
    refine H1.out.mono ?_
    rintro _ w1 ⟨rfl, hb1⟩
    have HX := hid (HE.out w1 hb1)
    have H2 := hid (isSeq_any w1 seq)
    rw [h2] at H2
    clear hb1
    go_wp2_with fail
    refine H2.out.mono ?_
    rintro _ _ ⟨rfl, rfl⟩
    go_wp2
    exact HX.out
  cases h3 : inB water 1 4294967295
  · clear hb h1
    generalize AskPost w p g mm C a i seq water = PO at *
    go_enter Try.func14, Try.ntmps14
    go_wp2_with fail
    refine H1.out.mono ?_
    rintro _ w1 ⟨rfl, hb1⟩
    have HX := hid (HE.out w1 hb1)
    have H2 := hid (isSeq_any w1 seq)
    rw [h2] at H2
    have H3 := hid (isSeq_any w1 water)
    rw [h3] at H3
    clear hb1
    go_wp2_with fail
    refine H2.out.mono ?_
    rintro _ _ ⟨rfl, rfl⟩
    go_wp2_with fail
    refine H3.out.mono ?_
    rintro _ _ ⟨rfl, rfl⟩
    go_wp2
    exact HX.out
  · simp at h1
    exact absurd ⟨h1.1, h1.2, h2, h3⟩ hb
set_option maxRecDepth 4000 in
theorem ask_known {a i seq water : Int} (h : PC w p g mm (A ++ c :: B)) (hi : c.is a i) (h2 : inB seq 1 4294967295 = true) (h3 : inB water 1 4294967295 = true) :
    Calls Try.prog 14 #[ptr p, whoV a i, .int .i64 seq, .int .i64 water] w (AskPost w p g mm (A ++ c :: B) a i seq water) := by
  have hcm : c ∈ A ++ c :: B := by simp
  have hok := h.st.cl c hcm
  obtain ⟨w0, hw0⟩ : ∃ w0, w.alloc (.cells #[.int .i64 a, .int .i64 i] 37) = w0 := ⟨_, rfl⟩
  have B0 : Below w.heap.size w w0 := by rw [← hw0]; exact below_box _ _
  have kb : w0.heap[w.heap.size]? = some (.cells #[.int .i64 a, .int .i64 i] 37) := by rw [← hw0]; exact (MapKept.heap_alloc w _).1
  have H1 := hid (isClient_any w0 a i)
  obtain ⟨A0, hA⟩ : ∃ A0, w.heap.size = A0 := ⟨_, rfl⟩
  have HS : Hid (A0 < w0.heap.size) := by rw [← hA]; exact (Array.getElem?_eq_some_iff.1 kb).1
  rw [hA] at kb
  have HK := hid kb
  have k0 : w0.cell? ⟨A0, 0, none⟩ = some (.int .i64 a) := by unfold World.cell?; rw [kb]; rfl
  have k1 : w0.cell? ⟨A0, 1, none⟩ = some (.int .i64 i) := by unfold World.cell?; rw [kb]; rfl
  have h1 : (inB a 1 16777215 && inB i 1 4611686018427387904) = true := by
    have q1 := hok.a; have q2 := hok.i
    rw [← hi.1, ← hi.2]
    simp [inB]
    omega
  rw [h1] at H1
  have HP := hid (h.below B0)
  have HB := hid B0
  have HI := hid hi
  have H23 := hid (And.intro h2 h3)
  have hrb := raise_same c water
  have HRB := hid hrb.2.2.1
  clear h B0 kb h1 hok hrb hi hcm
  generalize hPO : AskPost w p g mm (A ++ c :: B) a i seq water = PO at *
  have HPO := hid hPO
  clear hPO
  go_enter Try.func14, Try.ntmps14
  go_wp2_with fail
  refine H1.out.mono ?_
  rintro _ w1 ⟨rfl, hb1⟩
  have H2 := hid (isSeq_any w1 seq)
  rw [H23.out.1] at H2
  have H3 := hid (isSeq_any w1 water)
  rw [H23.out.2] at H3
  have hP1 := HP.out.below hb1
  have be1 : Below w.heap.size w w1 := HB.out.trans (hb1.mono HB.out.size)
  have hl := (look_yes hP1.drew (c := c) (by simp) HI.out).1
  have z4 := hP1.c4
  have kk : w1.heap[A0]? = _ := (hb1.block _ HS.out).trans HK.out
  have y0 : w1.cell? ⟨A0, 0, none⟩ = some (.int .i64 a) := by unfold World.cell?; rw [kk]; rfl
  have y1 : w1.cell? ⟨A0, 1, none⟩ = some (.int .i64 i) := by unfold World.cell?; rw [kk]; rfl
  have HP1 := hid hP1
  have HB1 := hid be1
  clear hb1 hP1 be1 kk
  have HRA := hid (raiseIn HP1.out.drew (inB_is H23.out.2))
  obtain ⟨cb, hcb⟩ : ∃ cb, c.b = cb := ⟨_, rfl⟩
  rw [hcb] at hl HRA HRB
  clear hcb
  go_wp2_with fail
  refine H2.out.mono ?_
  rintro _ _ ⟨rfl, rfl⟩
  go_wp2_with fail
  refine H3.out.mono ?_
  rintro _ _ ⟨rfl, rfl⟩
  go_wp2_with fail
  go_region
  all_goals (
    go_wp2_with fail
    refine HRA.out.mono ?_
    rintro _ w3 ⟨rfl, q1, q2⟩
    have HKN := hid (known_any (a := a) (i := i) (seq := seq) q1 HI.out H23.out.1 H23.out.2)
    rw [HRB.out] at HKN
    have HC3 := hid ((Chg.of_below (foot p mm (A ++ c :: B)) HB1.out).trans ((Chg.drew _ _).trans q2))
    clear q1 q2
    go_wp2_with fail
    refine HKN.out.mono ?_
    rintro _ w4 ⟨v, s, C', rfl, r1, r2, r3⟩
    have HEND : Hid (PO (.returned (.tuple #[.int .i64 v, .string s])) w4) := by
      rw [← HPO.out]
      exact ⟨v, s, C', rfl, r1, r2, HC3.out.trans r3⟩
    clear r1 r2 r3
    go_wp2
    exact HEND.out)
set_option maxRecDepth 4000 in
theorem ask_other {a i seq water : Int} (h : PC w p g mm C) (hn : ∀ c ∈ C, ¬ c.is a i) (h0 : inB a 1 16777215 = true) (h01 : inB i 1 4611686018427387904 = true) (h2 : inB seq 1 4294967295 = true) (h3 : inB water 1 4294967295 = true) :
    Calls Try.prog 14 #[ptr p, whoV a i, .int .i64 seq, .int .i64 water] w (AskPost w p g mm C a i seq water) := by
  obtain ⟨w0, hw0⟩ : ∃ w0, w.alloc (.cells #[.int .i64 a, .int .i64 i] 37) = w0 := ⟨_, rfl⟩
  have B0 : Below w.heap.size w w0 := by rw [← hw0]; exact below_box _ _
  have kb : w0.heap[w.heap.size]? = some (.cells #[.int .i64 a, .int .i64 i] 37) := by rw [← hw0]; exact (MapKept.heap_alloc w _).1
  have H1 := hid (isClient_any w0 a i)
  obtain ⟨A0, hA⟩ : ∃ A0, w.heap.size = A0 := ⟨_, rfl⟩
  have HS : Hid (A0 < w0.heap.size) := by rw [← hA]; exact (Array.getElem?_eq_some_iff.1 kb).1
  rw [hA] at kb
  have HK := hid kb
  have k0 : w0.cell? ⟨A0, 0, none⟩ = some (.int .i64 a) := by unfold World.cell?; rw [kb]; rfl
  have k1 : w0.cell? ⟨A0, 1, none⟩ = some (.int .i64 i) := by unfold World.cell?; rw [kb]; rfl
  have h1 : (inB a 1 16777215 && inB i 1 4611686018427387904) = true := by rw [h0, h01]; rfl
  rw [h1] at H1
  have HP := hid (h.below B0)
  have HB := hid B0
  have HI := hid hn
  have H23 := hid (And.intro h2 h3)
  have H01 := hid (And.intro h0 h01)
  clear h B0 kb h1 hn h0 h01 h2 h3
  generalize hPO : AskPost w p g mm C a i seq water = PO at *
  have HPO := hid hPO
  clear hPO
  go_enter Try.func14, Try.ntmps14
  go_wp2_with fail
  refine H1.out.mono ?_
  rintro _ w1 ⟨rfl, hb1⟩
  have H2 := hid (isSeq_any w1 seq)
  rw [H23.out.1] at H2
  have H3 := hid (isSeq_any w1 water)
  rw [H23.out.2] at H3
  have hP1 := HP.out.below hb1
  have be1 : Below w.heap.size w w1 := HB.out.trans (hb1.mono HB.out.size)
  have hl := look_no hP1.drew (a := a) (i := i) (by have := inB_is H01.out.1; omega) (by have := inB_is H01.out.2; omega) HI.out
  have z4 := hP1.c4
  have kk : w1.heap[A0]? = _ := (hb1.block _ HS.out).trans HK.out
  have y0 : w1.cell? ⟨A0, 0, none⟩ = some (.int .i64 a) := by unfold World.cell?; rw [kk]; rfl
  have y1 : w1.cell? ⟨A0, 1, none⟩ = some (.int .i64 i) := by unfold World.cell?; rw [kk]; rfl
  have HP1 := hid hP1
  have HB1 := hid be1
  clear hb1 hP1 be1 kk
  have HKN := hid (other_any (a := a) (i := i) (seq := seq) HP1.out.drew HI.out H01.out.1 H01.out.2 H23.out.1 H23.out.2)
  go_wp2_with fail
  refine H2.out.mono ?_
  rintro _ _ ⟨rfl, rfl⟩
  go_wp2_with fail
  refine H3.out.mono ?_
  rintro _ _ ⟨rfl, rfl⟩
  go_wp2_with fail
  go_region
  all_goals (
    go_wp2_with fail
    refine HKN.out.mono ?_
    rintro _ w4 ⟨v, C', rfl, r1, r2, r3⟩
    have HEND : Hid (PO (.returned (.tuple #[.int .i64 v, .string ⟨#[]⟩])) w4) := by
      rw [← HPO.out]
      exact ⟨v, _, C', rfl, r1, r2, (Chg.of_below (foot p mm C) HB1.out).trans ((Chg.drew _ _).trans r3)⟩
    clear r1 r2 r3
    go_wp2
    exact HEND.out)
theorem ask_any (h : PC w p g mm C) (a i seq water : Int) : Calls Try.prog 14 #[ptr p, whoV a i, .int .i64 seq, .int .i64 water] w (AskPost w p g mm C a i seq water) := by
  by_cases hb : inB a 1 16777215 = true ∧ inB i 1 4611686018427387904 = true ∧ inB seq 1 4294967295 = true ∧ inB water 1 4294967295 = true
  · obtain ⟨h0, h01, h2, h3⟩ := hb
    by_cases hn : ∃ c ∈ C, c.is a i
    · obtain ⟨c, hc, hi⟩ := hn
      obtain ⟨A, B, rfl⟩ := ty_of_mem hc
      exact ask_known h hi h2 h3
    · exact ask_other h (fun c hc e => hn ⟨c, hc, e⟩) h0 h01 h2 h3
  · exact ask_bad h hb
end
end Go.Proofs.Ytnpffhgmakbdnaa
