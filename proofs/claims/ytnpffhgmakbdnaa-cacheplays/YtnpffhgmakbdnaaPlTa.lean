/- CachePlays: one step of two caches. -/
import Derived.Test.YtnpffhgmakbdnaaPlRk
namespace Go.Proofs.Ytnpffhgmakbdnaa
open Go.RowKit
/-- a cache and the document's, that say the same -/
structure PR (K : Nat → Nat) (w : World) (B tc t p x : Nat) (g : Cf) (mm : Nat) (C : List Cl) (v1 v2 : Value) (L : List Kn) (I : List Sn) : Prop where
  cc : TC K w tc p g mm C
  dc : DC K w B t x g v1 v2 L I
  rel : REL C L I
  ne : tc < t
def T4 (tc t : Nat) : Nat → Prop := fun y => y = tc ∨ T3 t y
section
variable {K K' : Nat → Nat} {w w' : World} {B tc t p x mm : Nat} {g : Cf} {v1 v2 : Value} {L : List Kn} {I : List Sn} {C : List Cl} {a i seq : Int}
theorem PR.mv {T : Nat → Prop} (h : PR K w B tc t p x g mm C v1 v2 L I) (m : Mv T w w' K K') (h0 : ¬ T tc) (h1 : ¬ T t) (h2 : ¬ T (t + 1)) (h3 : ¬ T (t + 2)) : PR K' w' B tc t p x g mm C v1 v2 L I := ⟨h.cc.mv m h0, h.dc.mv m h1 h2 h3, h.rel, h.ne⟩
noncomputable def bz (C : List Cl) (a i seq : Int) : Bool := @decide (∃ c ∈ C, c.is a i ∧ busyE (enAt c.ents seq) = true) (Classical.propDecidable _)
theorem bz_true {C : List Cl} {a i seq : Int} (h : ∃ c ∈ C, c.is a i ∧ busyE (enAt c.ents seq) = true) : bz C a i seq = true := by unfold bz; simp [h]
theorem bz_false {C : List Cl} {a i seq : Int} (h : ∀ c ∈ C, c.is a i → busyE (enAt c.ents seq) = false) : bz C a i seq = false := by
  unfold bz
  simp only [decide_eq_false_iff_not]
  rintro ⟨c, hc, hi, hb⟩
  rw [h c hc hi] at hb
  cases hb
theorem Busy_bz (h : PC w p g mm C) (hw : InW a i) (hs : -9223372036854775808 ≤ seq ∧ seq ≤ 9223372036854775807) : Calls Try.prog 23 #[ptr p, whoV a i, .int .i64 seq] w fun r w' => r = .returned (.bool (bz C a i seq)) ∧ Below w.heap.size w w' := by
  refine (Busy_any h hw hs).mono ?_
  rintro r w' ⟨q, rfl, q1, q2, hb⟩
  refine ⟨?_, hb⟩
  cases q
  · rw [bz_false (q1 rfl)]
  · rw [bz_true (q2 rfl)]
theorem busS_bz {v : Bool} (rel : REL C L I) (st : StOk g C) (h : busS I a i seq v) : v = bz C a i seq := by
  rcases h with ⟨rfl, hno⟩ | ⟨L1, L2, y, hI, hy, rfl, _⟩
  · rw [bz_false]
    intro c hc hi
    cases he : enAt c.ents seq with
    | none => rfl
    | some e =>
      obtain ⟨q1, q2⟩ := enAt_some he
      have : snOf c e ∈ I.filter (whoB c.a c.i) := by rw [rel.i c hc]; exact List.mem_map.2 ⟨e, q1, rfl⟩
      exact absurd ⟨hi.1, hi.2, q2⟩ (hno _ (List.mem_filter.1 this).1)
  · obtain ⟨c, hc, q⟩ := rel.w y (by rw [hI]; simp)
    have : y ∈ I.filter (whoB c.a c.i) := List.mem_filter.2 ⟨by rw [hI]; simp, whoB_is.2 ⟨q.1.symm, q.2.symm⟩⟩
    rw [rel.i c hc] at this
    obtain ⟨e, he, rfl⟩ := List.mem_map.1 this
    have hci : c.is a i := ⟨q.1.trans hy.1, q.2.trans hy.2.1⟩
    have hse : e.seq = seq := hy.2.2
    have hen : enAt c.ents seq = some e := by rw [← hse]; exact enAt_is (st.cl c hc).nd he
    show (!e.ans) = _
    cases hans : e.ans
    · rw [bz_true ⟨c, hc, hci, by rw [hen]; simp [busyE, hans]⟩]; rfl
    · rw [bz_false]
      · rfl
      intro d hd hdi
      obtain rfl := same_who st hd hc hdi hci
      rw [hen]
      simp [busyE, hans]
theorem watK_is {v : Int} (rel : REL C L I) (st : StOk g C) (h : watK L a i v) : v = watP C a i := by
  rcases h with ⟨rfl, hno⟩ | ⟨y, hy, hyi, rfl⟩
  · rw [wat_no]
    intro c hc hi
    exact hno (knOf c) (by rw [rel.l]; exact List.mem_map.2 ⟨c, hc, rfl⟩) hi
  · rw [rel.l] at hy
    obtain ⟨c, hc, rfl⟩ := List.mem_map.1 hy
    rw [wat_is st hc hyi]
    rfl
def StepPost (K : Nat → Nat) (w : World) (B tc t p x : Nat) (g : Cf) (mm : Nat) (e : Ending) (w' : World) : Prop :=
  e = .returned (.bool true) ∧ ∃ K' C v1 v2 L I, PR K' w' B tc t p x g mm C v1 v2 L I ∧ Mv (T4 tc t) w w' K K'
set_option maxRecDepth 8000 in
set_option maxHeartbeats 2000000 in
theorem step_any (h : PR K w B tc t p x g mm C v1 v2 L I) (hB : B ≤ w.heap.size) (hg : CfOk g) (o : OpR) (ho : OpOk o) :
    Calls Try.prog 9 #[.agg #[ptr p, ptr x], .agg (opC o)] w (StepPost K w B tc t p x g mm) := by
  obtain ⟨other, raw, what, who, seq0, water0, a0, i0, rep⟩ := o
  obtain ⟨w0, hw0⟩ : ∃ w0, w.alloc (.cells #[ptr p, ptr x] 34) = w0 := ⟨_, rfl⟩
  obtain ⟨A2, hA2⟩ : ∃ A2, w.heap.size = A2 := ⟨_, rfl⟩
  obtain ⟨w1, hw1⟩ : ∃ w1, w0.alloc (.cells #[.bool other, .bool raw, .int .i64 what, .int .i64 who, .int .i64 seq0, .int .i64 water0, .int .i64 a0, .int .i64 i0, .string rep] 39) = w1 := ⟨_, rfl⟩
  obtain ⟨A3, hA3⟩ : ∃ A3, w0.heap.size = A3 := ⟨_, rfl⟩
  have hnt := h.ne
  obtain ⟨τ, hτ⟩ : ∃ τ, τ = t + 9 := ⟨_, rfl⟩
  obtain ⟨K1, H1⟩ : ∃ K1, Hid (PR K1 w1 B tc t p x g mm C v1 v2 L I ∧ TB K1 w1 τ A2 (.cells #[ptr p, ptr x] 34) ∧ TB K1 w1 τ A3 (.cells #[.bool other, .bool raw, .int .i64 what, .int .i64 who, .int .i64 seq0, .int .i64 water0, .int .i64 a0, .int .i64 i0, .string rep] 39) ∧ Mv (fun _ => False) w w1 K K1) := by
    have m0 := Mv.alloc w K (fun _ => τ) (.cells #[ptr p, ptr x] 34)
    have t0 := TB.new w K (fun _ => τ) (.cells #[ptr p, ptr x] 34) (t := τ) rfl
    rw [hw0] at m0 t0
    rw [hA2] at t0
    have m1 := Mv.alloc w0 (ext w K (fun _ => τ)) (fun _ => τ) (.cells #[.bool other, .bool raw, .int .i64 what, .int .i64 who, .int .i64 seq0, .int .i64 water0, .int .i64 a0, .int .i64 i0, .string rep] 39)
    have t1 := TB.new w0 (ext w K (fun _ => τ)) (fun _ => τ) (.cells #[.bool other, .bool raw, .int .i64 what, .int .i64 who, .int .i64 seq0, .int .i64 water0, .int .i64 a0, .int .i64 i0, .string rep] 39) (t := τ) rfl
    rw [hw1] at m1 t1
    rw [hA3] at t1
    exact ⟨_, (h.mv m0 id id id id).mv m1 id id id id, t0.mv m1 id, t1, m0.trans m1⟩
  have HNM := hid (names_any ⟨other, raw, what, who, seq0, water0, a0, i0, rep⟩ ho w1)
  obtain ⟨a, ha⟩ : ∃ a, nmA ⟨other, raw, what, who, seq0, water0, a0, i0, rep⟩ = a := ⟨_, rfl⟩
  obtain ⟨iv, hiv⟩ : ∃ iv, nmI ⟨other, raw, what, who, seq0, water0, a0, i0, rep⟩ = iv := ⟨_, rfl⟩
  obtain ⟨sq, hsq⟩ : ∃ sq, nmS ⟨other, raw, what, who, seq0, water0, a0, i0, rep⟩ = sq := ⟨_, rfl⟩
  obtain ⟨wt, hwt⟩ : ∃ wt, nmW ⟨other, raw, what, who, seq0, water0, a0, i0, rep⟩ = wt := ⟨_, rfl⟩
  have hin := names_in ho
  rw [ha, hiv, hsq, hwt] at HNM hin
  have HIN := hid hin
  have HG := hid (And.intro hg hB)
  have HNT := hid (And.intro hnt hτ)
  have z0 : w1.cell? ⟨A3, 0, none⟩ = some (.bool other) := by unfold World.cell?; rw [H1.out.2.2.1.at_]; rfl
  have z1 : w1.cell? ⟨A3, 1, none⟩ = some (.bool raw) := by unfold World.cell?; rw [H1.out.2.2.1.at_]; rfl
  have z2 : w1.cell? ⟨A3, 2, none⟩ = some (.int .i64 what) := by unfold World.cell?; rw [H1.out.2.2.1.at_]; rfl
  have z3 : w1.cell? ⟨A3, 3, none⟩ = some (.int .i64 who) := by unfold World.cell?; rw [H1.out.2.2.1.at_]; rfl
  have z4 : w1.cell? ⟨A3, 4, none⟩ = some (.int .i64 seq0) := by unfold World.cell?; rw [H1.out.2.2.1.at_]; rfl
  have z5 : w1.cell? ⟨A3, 5, none⟩ = some (.int .i64 water0) := by unfold World.cell?; rw [H1.out.2.2.1.at_]; rfl
  have z6 : w1.cell? ⟨A3, 6, none⟩ = some (.int .i64 a0) := by unfold World.cell?; rw [H1.out.2.2.1.at_]; rfl
  have z7 : w1.cell? ⟨A3, 7, none⟩ = some (.int .i64 i0) := by unfold World.cell?; rw [H1.out.2.2.1.at_]; rfl
  have z8 : w1.cell? ⟨A3, 8, none⟩ = some (.string rep) := by unfold World.cell?; rw [H1.out.2.2.1.at_]; rfl
  clear h ho hin ha hiv hsq hwt hg hB hnt hτ
  generalize hPO : StepPost K w B tc t p x g mm = PO
  have HPO := hid hPO
  clear hPO
  go_enter Try.func9, Try.ntmps9
  go_wp2_with fail
  refine HNM.out.mono ?_
  rintro _ w2 ⟨rfl, e2⟩
  obtain ⟨w3, hw3⟩ : ∃ w3, w2.alloc (.cells #[.int .i64 a, .int .i64 iv] 37) = w3 := ⟨_, rfl⟩
  obtain ⟨A5, hA5⟩ : ∃ A5, w2.heap.size = A5 := ⟨_, rfl⟩
  obtain ⟨K3, H3⟩ : ∃ K3, Hid (PR K3 w3 B tc t p x g mm C v1 v2 L I ∧ TB K3 w3 τ A2 (.cells #[ptr p, ptr x] 34) ∧ TB K3 w3 τ A3 (.cells #[.bool other, .bool raw, .int .i64 what, .int .i64 who, .int .i64 seq0, .int .i64 water0, .int .i64 a0, .int .i64 i0, .string rep] 39) ∧ TB K3 w3 τ A5 (.cells #[.int .i64 a, .int .i64 iv] 37) ∧ Mv (fun _ => False) w w3 K K3) := by
    have m2 := Mv.of_below e2 K1 (fun _ => τ)
    have m3 := Mv.alloc w2 (ext w1 K1 (fun _ => τ)) (fun _ => τ) (.cells #[.int .i64 a, .int .i64 iv] 37)
    have t3 := TB.new w2 (ext w1 K1 (fun _ => τ)) (fun _ => τ) (.cells #[.int .i64 a, .int .i64 iv] 37) (t := τ) rfl
    rw [hw3] at m3 t3
    rw [hA5] at t3
    obtain ⟨a1, a2, a3, a4⟩ := H1.out
    exact ⟨_, (a1.mv m2 id id id id).mv m3 id id id id, (a2.mv m2 id).mv m3 id, (a3.mv m2 id).mv m3 id, t3, (a4.trans m2).trans m3⟩
  clear z0 z1 z2 z3 z4 z5 z6 z7 z8 e2 H1 HNM
  have s0 : w3.cell? ⟨A2, 0, none⟩ = some (ptr p) := by unfold World.cell?; rw [H3.out.2.1.at_]; rfl
  have s1 : w3.cell? ⟨A2, 1, none⟩ = some (ptr x) := by unfold World.cell?; rw [H3.out.2.1.at_]; rfl
  have z2 : w3.cell? ⟨A3, 2, none⟩ = some (.int .i64 what) := by unfold World.cell?; rw [H3.out.2.2.1.at_]; rfl
  have z8 : w3.cell? ⟨A3, 8, none⟩ = some (.string rep) := by unfold World.cell?; rw [H3.out.2.2.1.at_]; rfl
  have u0 : w3.cell? ⟨A5, 0, none⟩ = some (.int .i64 a) := by unfold World.cell?; rw [H3.out.2.2.2.1.at_]; rfl
  have u1 : w3.cell? ⟨A5, 1, none⟩ = some (.int .i64 iv) := by unfold World.cell?; rw [H3.out.2.2.2.1.at_]; rfl
  by_cases c1 : 0 ≤ what ∧ what ≤ 3
  · have b1 : decide (0 ≤ what) = true := by simpa using c1.1
    have b2 : decide (what ≤ 3) = true := by simpa using c1.2
    clear c1
    have HAS := hid (ask_any H3.out.1.cc.pc a iv sq wt)
    go_wp2_with fail
    refine HAS.out.mono ?_
    rintro _ w4 ⟨v, s, C', rfl, hR, hP, hC⟩
    obtain ⟨K4, tc4, m4⟩ := H3.out.1.cc.chg hP hC
    obtain ⟨n1, n2⟩ := HNT.out
    have dc4 := H3.out.1.dc.mv m4 (by omega) (by omega) (by omega)
    have ts4 := H3.out.2.1.mv m4 (by omega)
    have tu4 := H3.out.2.2.2.1.mv m4 (by omega)
    have s04 : w4.cell? ⟨A2, 0, none⟩ = some (ptr p) := by unfold World.cell?; rw [ts4.at_]; rfl
    have s14 : w4.cell? ⟨A2, 1, none⟩ = some (ptr x) := by unfold World.cell?; rw [ts4.at_]; rfl
    have u04 : w4.cell? ⟨A5, 0, none⟩ = some (.int .i64 a) := by unfold World.cell?; rw [tu4.at_]; rfl
    have u14 : w4.cell? ⟨A5, 1, none⟩ = some (.int .i64 iv) := by unfold World.cell?; rw [tu4.at_]; rfl
    have mw4 := (H3.out.2.2.2.2.mono (T' := T4 tc t) (fun _ h => h.elim)).trans (m4.mono (T' := T4 tc t) (fun _ h => .inl h))
    have HDA := hid (dask_any dc4 (Nat.le_trans HG.out.2 mw4.size) H3.out.1.rel H3.out.1.cc.pc.st HG.out.1 hR)
    have H4 := hid (And.intro tc4 mw4)
    have hss : (s.toList == s.toList) = true := by simp
    have hvv : (v == v) = true := by simp
    clear hR hP hC m4 dc4 ts4 tu4 mw4 tc4 n1 n2 HAS
    go_wp2_with fail
    refine HDA.out.mono ?_
    rintro _ w5 ⟨rfl, K5, v15, v25, L5, I5, hd5, hr5, mv5⟩
    have HE : Hid (PO (.returned (.bool true)) w5) := by
      rw [← HPO.out]
      obtain ⟨n1, n2⟩ := HNT.out
      refine ⟨rfl, K5, _, v15, v25, L5, I5, ⟨H4.out.1.mv mv5 ?_, hd5, hr5, n1⟩, H4.out.2.trans (mv5.mono (fun _ h => .inr h))⟩
      rintro (q | q | q) <;> omega
    clear hd5 hr5 mv5 H4 HDA
    go_wp2
    exact HE.out
  have c1' : ¬ (0 ≤ what ∧ what ≤ 3) := c1
  by_cases c4 : what = 4
  · subst c4
    clear c1 c1'
    have HAS := hid (done_any H3.out.1.cc.pc rep HIN.out.1 HIN.out.2.1)
    go_wp2_with fail
    refine HAS.out.mono ?_
    rintro _ w4 ⟨v, C', rfl, hR, hP, hC⟩
    obtain ⟨K4, tc4, m4⟩ := H3.out.1.cc.chg hP hC
    obtain ⟨n1, n2⟩ := HNT.out
    have dc4 := H3.out.1.dc.mv m4 (by omega) (by omega) (by omega)
    have ts4 := H3.out.2.1.mv m4 (by omega)
    have to4 := H3.out.2.2.1.mv m4 (by omega)
    have tu4 := H3.out.2.2.2.1.mv m4 (by omega)
    have s04 : w4.cell? ⟨A2, 0, none⟩ = some (ptr p) := by unfold World.cell?; rw [ts4.at_]; rfl
    have s14 : w4.cell? ⟨A2, 1, none⟩ = some (ptr x) := by unfold World.cell?; rw [ts4.at_]; rfl
    have z84 : w4.cell? ⟨A3, 8, none⟩ = some (.string rep) := by unfold World.cell?; rw [to4.at_]; rfl
    have u04 : w4.cell? ⟨A5, 0, none⟩ = some (.int .i64 a) := by unfold World.cell?; rw [tu4.at_]; rfl
    have u14 : w4.cell? ⟨A5, 1, none⟩ = some (.int .i64 iv) := by unfold World.cell?; rw [tu4.at_]; rfl
    have mw4 := (H3.out.2.2.2.2.mono (T' := T4 tc t) (fun _ h => h.elim)).trans (m4.mono (T' := T4 tc t) (fun _ h => .inl h))
    have HDA := hid (ddone_any dc4 (by have := (rel_small H3.out.1.rel H3.out.1.cc.pc.st HG.out.1).2; omega) a iv sq rep)
    have H4 := hid (And.intro tc4 mw4)
    have HRR := hid hR
    have hvv : (v == v) = true := by simp
    clear hR hP hC m4 dc4 ts4 to4 tu4 mw4 tc4 n1 n2 HAS
    go_wp2_with fail
    refine HDA.out.mono ?_
    rintro _ w5 ⟨v', I5, K5, v15, v25, rfl, hS, hd5, mv5⟩
    obtain ⟨rfl, hr5⟩ := rel_done H3.out.1.rel H3.out.1.cc.pc.st HRR.out hS
    have HE : Hid (PO (.returned (.bool true)) w5) := by
      rw [← HPO.out]
      obtain ⟨n1, n2⟩ := HNT.out
      refine ⟨rfl, K5, _, v15, v25, L, I5, ⟨H4.out.1.mv mv5 ?_, hd5, hr5, n1⟩, H4.out.2.trans (mv5.mono (fun _ h => .inr h))⟩
      rintro (q | q | q) <;> omega
    clear hd5 hr5 mv5 H4 HDA hS
    go_wp2
    exact HE.out
  by_cases c5 : what = 5
  · subst c5
    clear c1 c1' c4
    have HAS := hid (done_any H3.out.1.cc.pc rep HIN.out.1 HIN.out.2.1)
    go_wp2_with fail
    refine HAS.out.mono ?_
    rintro _ w4 ⟨v, C', rfl, hR, hP, hC⟩
    obtain ⟨K4, tc4, m4⟩ := H3.out.1.cc.chg hP hC
    obtain ⟨n1, n2⟩ := HNT.out
    have dc4 := H3.out.1.dc.mv m4 (by omega) (by omega) (by omega)
    have ts4 := H3.out.2.1.mv m4 (by omega)
    have to4 := H3.out.2.2.1.mv m4 (by omega)
    have tu4 := H3.out.2.2.2.1.mv m4 (by omega)
    have s04 : w4.cell? ⟨A2, 0, none⟩ = some (ptr p) := by unfold World.cell?; rw [ts4.at_]; rfl
    have s14 : w4.cell? ⟨A2, 1, none⟩ = some (ptr x) := by unfold World.cell?; rw [ts4.at_]; rfl
    have z84 : w4.cell? ⟨A3, 8, none⟩ = some (.string rep) := by unfold World.cell?; rw [to4.at_]; rfl
    have u04 : w4.cell? ⟨A5, 0, none⟩ = some (.int .i64 a) := by unfold World.cell?; rw [tu4.at_]; rfl
    have u14 : w4.cell? ⟨A5, 1, none⟩ = some (.int .i64 iv) := by unfold World.cell?; rw [tu4.at_]; rfl
    have mw4 := (H3.out.2.2.2.2.mono (T' := T4 tc t) (fun _ h => h.elim)).trans (m4.mono (T' := T4 tc t) (fun _ h => .inl h))
    have HDA := hid (ddone_any dc4 (by have := (rel_small H3.out.1.rel H3.out.1.cc.pc.st HG.out.1).2; omega) a iv sq rep)
    have H4 := hid (And.intro tc4 mw4)
    have HRR := hid hR
    have hvv : (v == v) = true := by simp
    clear hR hP hC m4 dc4 ts4 to4 tu4 mw4 tc4 n1 n2 HAS
    go_wp2_with fail
    refine HDA.out.mono ?_
    rintro _ w5 ⟨v', I5, K5, v15, v25, rfl, hS, hd5, mv5⟩
    obtain ⟨rfl, hr5⟩ := rel_done H3.out.1.rel H3.out.1.cc.pc.st HRR.out hS
    have HE : Hid (PO (.returned (.bool true)) w5) := by
      rw [← HPO.out]
      obtain ⟨n1, n2⟩ := HNT.out
      refine ⟨rfl, K5, _, v15, v25, L, I5, ⟨H4.out.1.mv mv5 ?_, hd5, hr5, n1⟩, H4.out.2.trans (mv5.mono (fun _ h => .inr h))⟩
      rintro (q | q | q) <;> omega
    clear hd5 hr5 mv5 H4 HDA hS
    go_wp2
    exact HE.out
  obtain ⟨Z, f, hf1, hf2⟩ : ∃ (Z : Type) (f : Z → World), (∀ z, Below w3.heap.size w3 (f z)) ∧ ∀ w', Below w3.heap.size w3 w' → ∃ z, w' = f z := ⟨{ w' // Below w3.heap.size w3 w' }, Subtype.val, fun z => z.2, fun w' h => ⟨⟨w', h⟩, rfl⟩⟩
  have HZP : Hid (∀ z, PR (ext w3 K3 (fun _ => τ)) (f z) B tc t p x g mm C v1 v2 L I ∧ Mv (fun _ => False) w (f z) K (ext w3 K3 (fun _ => τ)) ∧ TB (ext w3 K3 (fun _ => τ)) (f z) τ A2 (.cells #[ptr p, ptr x] 34) ∧ TB (ext w3 K3 (fun _ => τ)) (f z) τ A5 (.cells #[.int .i64 a, .int .i64 iv] 37)) := fun z => by
    have mz := Mv.of_below (hf1 z) K3 (fun _ => τ)
    exact ⟨H3.out.1.mv mz id id id id, H3.out.2.2.2.2.trans mz, H3.out.2.1.mv mz id, H3.out.2.2.2.1.mv mz id⟩
  have HZ0 : Hid (∃ z, w3.drew = f z) := hf2 _ (Below.refl _ _).drew
  have instZ : Nonempty Z := ⟨HZ0.out.choose⟩
  have sz0 : ∀ z, (f z).cell? ⟨A2, 0, none⟩ = some (ptr p) := fun z => by unfold World.cell?; rw [(HZP.out z).2.2.1.at_]; rfl
  have sz1 : ∀ z, (f z).cell? ⟨A2, 1, none⟩ = some (ptr x) := fun z => by unfold World.cell?; rw [(HZP.out z).2.2.1.at_]; rfl
  have uz0 : ∀ z, (f z).cell? ⟨A5, 0, none⟩ = some (.int .i64 a) := fun z => by unfold World.cell?; rw [(HZP.out z).2.2.2.at_]; rfl
  have uz1 : ∀ z, (f z).cell? ⟨A5, 1, none⟩ = some (.int .i64 iv) := fun z => by unfold World.cell?; rw [(HZP.out z).2.2.2.at_]; rfl
  have HE : Hid (∀ z, PO (.returned (.bool true)) (f z)) := fun z => by
    rw [← HPO.out]
    exact ⟨rfl, _, _, _, _, _, _, (HZP.out z).1, (HZP.out z).2.1.mono (fun _ h => h.elim)⟩
  have HSM := hid (rel_small H3.out.1.rel H3.out.1.cc.pc.st HG.out.1)
  have HIL : Hid (∀ z, Below w3.heap.size w3 (f z) ∧ ∀ w'', Below (f z).heap.size (f z) w'' → ∃ z', w'' = f z') := fun z => ⟨hf1 z, fun w'' hb => hf2 _ ((hf1 z).trans (hb.mono (hf1 z).size))⟩
  clear hf1 hf2
  by_cases c6 : what = 6
  · subst c6
    clear c1 c1' c4 c5
    obtain ⟨bq, hbq⟩ : ∃ bq, bz C a iv sq = bq := ⟨_, rfl⟩
    have HB1 : Hid (∀ z, Calls Try.prog 23 #[ptr p, whoV a iv, .int .i64 sq] (f z) fun e w'' => e = .returned (.bool bq) ∧ ∃ z', w'' = f z') := fun z => by
      have h9 := Busy_bz (HZP.out z).1.cc.pc HIN.out.1 HIN.out.2.1
      rw [hbq] at h9
      refine h9.mono ?_
      rintro _ w'' ⟨rfl, hb⟩
      exact ⟨rfl, (HIL.out z).2 _ hb⟩
    have HB2 : Hid (∀ z, Calls Try.prog 24 #[ptr x, whoV a iv, .int .i64 sq] (f z) fun e w'' => e = .returned (.bool bq) ∧ ∃ z', w'' = f z') := fun z => by
      refine (dbusy_any (HZP.out z).1.dc (by have := HSM.out; omega) a iv sq).mono ?_
      rintro _ w'' ⟨v, rfl, hs, hb⟩
      refine ⟨?_, (HIL.out z).2 _ hb⟩
      rw [busS_bz H3.out.1.rel H3.out.1.cc.pc.st hs, hbq]
    have hbb : (bq == bq) = true := by cases bq <;> rfl
    clear hbq
    go_wp2_with fail
    refine wp_region_class f (by kernel_rfl) (by kernel_rfl) HZ0.out ?_
    repeat (go_big_quiet_step (first | (go_at_call 23; exact HB1.out _) | (go_at_call 24; exact HB2.out _)))
    refine wpQuiet_nil ?_
    rintro _ ⟨z, rfl⟩
    go_wp2
    exact HE.out z
  by_cases c7 : what = 7
  · subst c7
    clear c1 c1' c4 c5 c6
    obtain ⟨wq, hwq⟩ : ∃ wq, watP C a iv = wq := ⟨_, rfl⟩
    have HB1 : Hid (∀ z, Calls Try.prog 13 #[ptr p, whoV a iv] (f z) fun e w'' => e = .returned (.int .i64 wq) ∧ ∃ z', w'' = f z') := fun z => by
      have h9 := water_any (HZP.out z).1.cc.pc HIN.out.1
      rw [hwq] at h9
      refine h9.mono ?_
      rintro _ w'' ⟨rfl, hb⟩
      exact ⟨rfl, (HIL.out z).2 _ hb⟩
    have HB2 : Hid (∀ z, Calls Try.prog 25 #[ptr x, whoV a iv] (f z) fun e w'' => e = .returned (.int .i64 wq) ∧ ∃ z', w'' = f z') := fun z => by
      refine (dwater_any (HZP.out z).1.dc (by have := HSM.out; omega) a iv).mono ?_
      rintro _ w'' ⟨v, rfl, hs, hb⟩
      refine ⟨?_, (HIL.out z).2 _ hb⟩
      rw [watK_is H3.out.1.rel H3.out.1.cc.pc.st hs, hwq]
    have hbb : (wq == wq) = true := by simp
    clear hwq
    go_wp2_with fail
    refine wp_region_class f (by kernel_rfl) (by kernel_rfl) HZ0.out ?_
    repeat (go_big_quiet_step (first | (go_at_call 13; exact HB1.out _) | (go_at_call 25; exact HB2.out _)))
    refine wpQuiet_nil ?_
    rintro _ ⟨z, rfl⟩
    go_wp2
    exact HE.out z
  have e4 : (what == 4) = false := by simp [c4]
  have e5 : (what == 5) = false := by simp [c5]
  have e6 : (what == 6) = false := by simp [c6]
  have e7 : (what == 7) = false := by simp [c7]
  obtain ⟨cn, hcn⟩ : ∃ cn : Int, (C.length : Int) = cn := ⟨_, rfl⟩
  obtain ⟨en, hen⟩ : ∃ en : Int, ((sumC (fun c => c.ents.length) C : Nat) : Int) = en := ⟨_, rfl⟩
  obtain ⟨bn, hbn⟩ : ∃ bn : Int, ((tot g.rs C : Nat) : Int) = bn := ⟨_, rfl⟩
  have HB1 : Hid (∀ z, Calls Try.prog 15 #[ptr p] (f z) fun e w'' => e = .returned (.int .i64 cn) ∧ ∃ z', w'' = f z') := fun z => by
    refine (clients_any (HZP.out z).1.cc.pc).mono ?_
    rintro _ _ ⟨rfl, rfl⟩
    exact ⟨by rw [hcn], z, rfl⟩
  have HB2 : Hid (∀ z, Calls Try.prog 26 #[ptr x] (f z) fun e w'' => e = .returned (.int .i64 cn) ∧ ∃ z', w'' = f z') := fun z => by
    refine (dclients_any (HZP.out z).1.dc).mono ?_
    rintro _ _ ⟨rfl, rfl⟩
    have hl : L.length = C.length := by rw [H3.out.1.rel.l]; simp
    exact ⟨by rw [hl, hcn], z, rfl⟩
  have HB3 : Hid (∀ z, Calls Try.prog 17 #[ptr p] (f z) fun e w'' => e = .returned (.int .i64 en) ∧ ∃ z', w'' = f z') := fun z => by
    refine (entries_any (HZP.out z).1.cc.pc).mono ?_
    rintro _ w'' ⟨rfl, hb⟩
    exact ⟨by rw [hen], (HIL.out z).2 _ hb⟩
  have HB4 : Hid (∀ z, Calls Try.prog 27 #[ptr x] (f z) fun e w'' => e = .returned (.int .i64 en) ∧ ∃ z', w'' = f z') := fun z => by
    refine (dentries_any (HZP.out z).1.dc).mono ?_
    rintro _ _ ⟨rfl, rfl⟩
    exact ⟨by rw [rel_len C I H3.out.1.cc.pc.st.who H3.out.1.rel.i H3.out.1.rel.w, hen], z, rfl⟩
  have HB5 : Hid (∀ z, Calls Try.prog 16 #[ptr p] (f z) fun e w'' => e = .returned (.int .i64 bn) ∧ ∃ z', w'' = f z') := fun z => by
    refine (bytes_any (HZP.out z).1.cc.pc).mono ?_
    rintro _ w'' ⟨rfl, hb⟩
    exact ⟨by rw [← hbn]; rfl, (HIL.out z).2 _ hb⟩
  have HB6 : Hid (∀ z, Calls Try.prog 28 #[ptr x] (f z) fun e w'' => e = .returned (.int .i64 bn) ∧ ∃ z', w'' = f z') := fun z => by
    refine (dbytes_any (HZP.out z).1.dc (by have := HSM.out; omega) (rel_sizes H3.out.1.rel H3.out.1.cc.pc.st HG.out.1)).mono ?_
    rintro _ _ ⟨rfl, rfl⟩
    exact ⟨by rw [rel_bytes g.rs C I H3.out.1.cc.pc.st.who H3.out.1.rel.i H3.out.1.rel.w, hbn], z, rfl⟩
  have k1 : (cn == cn) = true := by simp
  have k2 : (en == en) = true := by simp
  have k3 : (bn == bn) = true := by simp
  clear hcn hen hbn c4 c5 c6 c7
  by_cases c0 : 0 ≤ what
  · have b1 : decide (0 ≤ what) = true := by simpa using c0
    have b2 : decide (what ≤ 3) = false := by simp; omega
    clear c1 c1' c0
    go_wp2_with fail
    refine wp_region_class f (by kernel_rfl) (by kernel_rfl) HZ0.out ?_
    repeat (go_big_quiet_step (first | (go_at_call 15; exact HB1.out _) | (go_at_call 26; exact HB2.out _) | (go_at_call 17; exact HB3.out _) | (go_at_call 27; exact HB4.out _) | (go_at_call 16; exact HB5.out _) | (go_at_call 28; exact HB6.out _)))
    refine wpQuiet_nil ?_
    rintro _ ⟨z, rfl⟩
    go_wp2
    exact HE.out z
  · have b1 : decide (0 ≤ what) = false := by simpa using c0
    clear c1 c1' c0
    go_wp2_with fail
    refine wp_region_class f (by kernel_rfl) (by kernel_rfl) HZ0.out ?_
    repeat (go_big_quiet_step (first | (go_at_call 15; exact HB1.out _) | (go_at_call 26; exact HB2.out _) | (go_at_call 17; exact HB3.out _) | (go_at_call 27; exact HB4.out _) | (go_at_call 16; exact HB5.out _) | (go_at_call 28; exact HB6.out _)))
    refine wpQuiet_nil ?_
    rintro _ ⟨z, rfl⟩
    go_wp2
    exact HE.out z
end
end Go.Proofs.Ytnpffhgmakbdnaa
