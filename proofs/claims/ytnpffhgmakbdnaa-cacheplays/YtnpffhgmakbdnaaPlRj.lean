/- The document's cache: Ask of one who is known. -/
import Derived.Test.YtnpffhgmakbdnaaPlRi
namespace Go.Proofs.Ytnpffhgmakbdnaa
open Go.RowKit
/-- behind the water's rise -/
structure KN (K0 : Nat → Nat) (w : World) (B t x A0 : Nat) (g : Cf) (a i : Int) (A Bs : List Cl) (d : Cl) (K : Nat → Nat) (w' : World) (v1 v2 : Value) (I : List Sn) : Prop where
  dc : DC K w' B t x g v1 v2 (A.map knOf ++ knOf d :: Bs.map knOf) I
  rel : REL (A ++ d :: Bs) (A.map knOf ++ knOf d :: Bs.map knOf) I
  mv : Mv (T3 t) w w' K0 K
  box : TB K w' (t + 9) A0 (.cells #[.int .i64 a, .int .i64 i] 37)
theorem kn_cases {g : Cf} {A Bs : List Cl} {c : Cl} {a i seq water v : Int} {s : ByteArray} {C' : List Cl} (h : AskR g (A ++ c :: Bs) a i seq water v s C') (st : StOk g (A ++ c :: Bs)) (hi : c.is a i) (hv : inB a 1 16777215 = true ∧ inB i 1 4611686018427387904 = true ∧ inB seq 1 4294967295 = true ∧ inB water 1 4294967295 = true) :
    (seq < (raiseC c water).water ∧ v = 4 ∧ s = ⟨#[]⟩ ∧ C' = A ++ raiseC c water :: Bs) ∨
    (∃ e, enAt (raiseC c water).ents seq = some e ∧ ¬ seq < (raiseC c water).water ∧ v = (if e.ans then 3 else 2) ∧ s = e.rep ∧ C' = A ++ raiseC c water :: Bs) ∨
    (¬ seq < (raiseC c water).water ∧ enAt (raiseC c water).ents seq = none ∧ (g.en ≤ (raiseC c water).ents.length ∨ ¬ tot g.rs (A ++ raiseC c water :: Bs) + g.rs ≤ g.by_) ∧ v = 5 ∧ s = ⟨#[]⟩ ∧ C' = A ++ raiseC c water :: Bs) ∨
    (¬ seq < (raiseC c water).water ∧ enAt (raiseC c water).ents seq = none ∧ (raiseC c water).ents.length < g.en ∧ tot g.rs (A ++ raiseC c water :: Bs) + g.rs ≤ g.by_ ∧ v = 1 ∧ s = ⟨#[]⟩ ∧ C' = A ++ { raiseC c water with ents := (raiseC c water).ents ++ [newE seq] } :: Bs) := by
  have uni : ∀ A' B' c', A ++ c :: Bs = A' ++ c' :: B' → c'.is a i → A' = A ∧ c' = c ∧ B' = Bs := fun A' B' c' e hi' => by
    have h1 := (no_in st hi).1
    have h2 := (no_in (e ▸ st) hi').1
    obtain ⟨q1, q2, q3⟩ := first_unique (q := fun z : Cl => z.is a i) e hi hi' h1 h2
    exact ⟨q1.symm, q2.symm, q3.symm⟩
  have hno : ¬ ∀ d ∈ A ++ c :: Bs, ¬ d.is a i := fun q => q c (by simp) hi
  cases h with
  | bad q => exact absurd hv q
  | old A' B' c' q hi' _ _ h5 =>
    obtain ⟨rfl, rfl, rfl⟩ := uni A' B' c' q hi'
    exact .inl ⟨h5, rfl, rfl, rfl⟩
  | there A' B' c' e q hi' h3 h4 h5 h6 =>
    obtain ⟨rfl, rfl, rfl⟩ := uni A' B' c' q hi'
    have hok := raise_ok (st.cl c' (by simp)) (inB_is h4)
    have hlo := (hok.en e h5).lo
    subst h6
    exact .inr (.inl ⟨e, enAt_is hok.nd h5, by omega, rfl, rfl, rfl⟩)
  | full A' B' c' q hi' _ _ h5 h6 h7 =>
    obtain ⟨rfl, rfl, rfl⟩ := uni A' B' c' q hi'
    exact .inr (.inr (.inl ⟨h5, h6, h7, rfl, rfl, rfl⟩))
  | new A' B' c' q hi' _ _ h5 h6 h7 h8 =>
    obtain ⟨rfl, rfl, rfl⟩ := uni A' B' c' q hi'
    exact .inr (.inr (.inr ⟨h5, h6, h7, h8, rfl, rfl, rfl⟩))
  | oldU q => exact absurd q hno
  | fullU q => exact absurd q hno
  | newU b m q => exact absurd q hno
theorem rel_new {A Bs : List Cl} {d : Cl} {L : List Kn} {I : List Sn} {a i seq : Int} {g : Cf} (h : REL (A ++ d :: Bs) L I) (st : StOk g (A ++ d :: Bs)) (hi : d.is a i) : REL (A ++ { d with ents := d.ents ++ [newE seq] } :: Bs) L (I ++ [⟨a, i, seq, false, ⟨#[]⟩⟩]) := by
  refine ⟨by rw [h.l]; simp [knOf], fun c hc => ?_, fun y hy => ?_⟩
  · rw [List.filter_append]
    rcases mem_mid.1 hc with rfl | q
    · have h1 := h.i d (by simp)
      simp only
      rw [h1, List.filter_cons_of_pos (whoB_is.2 ⟨hi.1.symm, hi.2.symm⟩)]
      simp [snOf, hi.1, hi.2]
    · have hne : whoB c.a c.i ⟨a, i, seq, false, ⟨#[]⟩⟩ = false := by
        rw [Bool.eq_false_iff]
        intro e
        have e2 := whoB_is.1 e
        have hn := no_in st hi
        rcases List.mem_append.1 q with q | q
        · exact hn.1 c q ⟨e2.1.symm, e2.2.symm⟩
        · exact hn.2 c q ⟨e2.1.symm, e2.2.symm⟩
      rw [h.i c (mem_mid.2 (.inr q)), List.filter_cons_of_neg (by rw [hne]; simp)]
      simp
  · rcases List.mem_append.1 hy with q | q
    · obtain ⟨c, hc, q2⟩ := h.w y q
      rcases mem_mid.1 hc with rfl | q3
      · exact ⟨_, mem_mid.2 (.inl rfl), q2⟩
      · exact ⟨c, mem_mid.2 (.inr q3), q2⟩
    · simp at q
      subst q
      exact ⟨_, mem_mid.2 (.inl rfl), hi⟩
section
variable {K K' : Nat → Nat} {w w' : World} {B t x : Nat} {g : Cf} {v1 v2 : Value} {L : List Kn} {I : List Sn} {A Bs : List Cl} {c : Cl} {a i seq water : Int}
set_option maxRecDepth 4000 in
set_option maxHeartbeats 1000000 in
theorem dask_known {v : Int} {s : ByteArray} {C' : List Cl} (h : DC K w B t x g v1 v2 L I) (hB : B ≤ w.heap.size) (rel : REL (A ++ c :: Bs) L I) (st : StOk g (A ++ c :: Bs)) (hg : CfOk g) (hv : Vd a i seq water) (hi : c.is a i) (hwt : 1 ≤ water ∧ water ≤ 4294967295) (hR : AskR g (A ++ c :: Bs) a i seq water v s C') :
    Calls Try.prog 21 #[ptr x, whoV a i, .int .i64 seq, .int .i64 water] w (AskPostS K w B t x g v s C') := by
  obtain ⟨w0, hw0⟩ : ∃ w0, w.alloc (.cells #[.int .i64 a, .int .i64 i] 37) = w0 := ⟨_, rfl⟩
  have B0 : Below w.heap.size w w0 := by rw [← hw0]; exact below_box _ _
  have kb : w0.heap[w.heap.size]? = some (.cells #[.int .i64 a, .int .i64 i] 37) := by rw [← hw0]; exact (MapKept.heap_alloc w _).1
  have m0 := Mv.of_below B0 K (fun _ => t + 9)
  have h0 := h.mv m0 id id id
  obtain ⟨A0, hA⟩ : ∃ A0, w.heap.size = A0 := ⟨_, rfl⟩
  have HK9 : Hid (ext w K (fun _ => t + 9) A0 = t + 9) := ext_new (by omega)
  rw [hA] at kb
  have k0 : w0.cell? ⟨A0, 0, none⟩ = some (.int .i64 a) := by unfold World.cell?; rw [kb]; rfl
  have k1 : w0.cell? ⟨A0, 1, none⟩ = some (.int .i64 i) := by unfold World.cell?; rw [kb]; rfl
  obtain ⟨d0, d1, d2, d3, d4, d5, d6, d7⟩ := hv
  have sm := rel_small rel st hg
  have HC := hid (client_any h0 (by omega) a i)
  have HH := hid (And.intro h0 m0)
  have HRL := hid rel
  have HSM := hid sm
  have HST := hid (And.intro st hg)
  have HI := hid hi
  have HW := hid (And.intro hwt hB)
  have HVV : inB a 1 16777215 = true ∧ inB i 1 4611686018427387904 = true ∧ inB seq 1 4294967295 = true ∧ inB water 1 4294967295 = true := by
    simp at d0 d1 d2 d3 d4 d5 d6 d7
    simp [inB]
    omega
  have HRR := hid (kn_cases hR st hi HVV)
  clear HVV
  have HTB : Hid (TB (ext w K (fun _ => t + 9)) w0 (t + 9) A0 (.cells #[.int .i64 a, .int .i64 i] 37)) := ⟨kb, HK9.out⟩
  clear h h0 m0 B0 kb rel st hg sm hi hwt hB hR
  generalize hPO : AskPostS K w B t x g v s C' = PO
  have HPO := hid hPO
  clear hPO
  go_enter Try.func21, Try.ntmps21
  go_wp2_with fail
  refine HC.out.mono ?_
  rintro _ w1 ⟨v, rfl, hf, hb1⟩
  obtain ⟨rfl, hL⟩ := rel_client HRL.out HST.out.1 HI.out hf
  have m1 := Mv.of_below hb1 (ext w K (fun _ => t + 9)) (fun _ => t + 9)
  obtain ⟨K1, hK1⟩ : ∃ K1, ext w0 (ext w K (fun _ => t + 9)) (fun _ => t + 9) = K1 := ⟨_, rfl⟩
  rw [hK1] at m1
  have h1 := HH.out.1.mv m1 id id id
  have tb1 := HTB.out.mv m1 id
  have hr := HRL.out
  rw [hL] at h1 hr
  have H1 : Hid (DC K1 w1 B t x g v1 v2 (A.map knOf ++ knOf c :: Bs.map knOf) I ∧ Mv (fun _ => False) w w1 K K1 ∧ TB K1 w1 (t + 9) A0 (.cells #[.int .i64 a, .int .i64 i] 37) ∧ REL (A ++ c :: Bs) (A.map knOf ++ knOf c :: Bs.map knOf) I) := ⟨h1, HH.out.2.trans m1, tb1, hr⟩
  obtain ⟨oa, cap, e1, _, hg1⟩ := h1.l.form
  obtain ⟨n, hn⟩ : ∃ n, (A.map knOf ++ knOf c :: Bs.map knOf).length = n := ⟨_, rfl⟩
  obtain ⟨g1, hg1⟩ := hg1 (by simp; omega)
  rw [hn] at e1
  subst e1 hg1
  have x4 := h1.c4
  have t2 : w1.cell? ⟨g1, A.length * 3 + 2, none⟩ = some (.int .i64 c.water) := h1.l.cell knL hn (j := A.length) (x := knOf c) (by simp) 2 (by omega)
  have hj' : (A.length : Int) < (n : Int) := by rw [← hn]; simp; omega
  have hj0 : decide ((0 : Int) ≤ (A.length : Int)) = true := by simp
  have hj1 : (0 : Int) ≤ (A.length : Int) := by omega
  have hj2 : decide ((A.length : Int) < 0) = false := by simp
  have HJN := hid hn
  obtain ⟨ja, hja⟩ : ∃ ja, A.length = ja := ⟨_, rfl⟩
  rw [hja] at t2 hj' hj0 hj1 hj2 ⊢
  have HJA := hid hja
  obtain ⟨rq, hrq⟩ : ∃ rq, decide (c.water < water) = rq := ⟨_, rfl⟩
  have HRQ := hid hrq
  obtain ⟨cw, hcw⟩ : ∃ cw, c.water = cw := ⟨_, rfl⟩
  rw [hcw] at t2 hrq
  clear hf hL hb1 m1 hK1 h1 tb1 hr hn HH HC HTB HK9 hja k0 k1 hcw
  go_upto_if 62 with fail
  clear hrq
  go_cut [10] from 12 to 173 (fun s10 wx => s10 = .int .i64 (ja : Nat) ∧ Hid (∃ K' v1 v2 I', KN K w B t x A0 g a i A Bs (raiseC c water) K' wx v1 v2 I'))
  case first =>
    cases rq
    · have hle : water ≤ c.water := by have := HRQ.out; simp at this; omega
      have HE : Hid (∃ K' v1 v2 I', KN K w B t x A0 g a i A Bs (raiseC c water) K' w1 v1 v2 I') := by
        rw [raise_low hle]
        exact ⟨K1, _, _, I, H1.out.1, H1.out.2.2.2, H1.out.2.1.mono (fun _ h => h.elim), H1.out.2.2.1⟩
      clear hle
      go_wp2_with fail
      go_meet
      exact ⟨rfl, HE⟩
    · have hle : ¬ water ≤ c.water := by have := HRQ.out; simp at this; omega
      have HRI := hid (rises_any H1.out.1 (Nat.le_trans HW.out.2 H1.out.2.1.size) (by have := HSM.out; omega) water)
      rw [List.length_map, HJA.out] at HRI
      have HLE := hid hle
      clear hle
      go_wp2_with fail
      refine HRI.out.mono ?_
      rintro _ w3 ⟨rfl, K3, v13, v23, hd3, mv3⟩
      have HE : Hid (∃ K' v1 v2 I', KN K w B t x A0 g a i A Bs (raiseC c water) K' w3 v1 v2 I') := by
        have hrr := rel_raise H1.out.2.2.2 HST.out.1 (water := water) (by have := HLE.out; omega)
        have hk : knOf (raiseC c water) = { knOf c with water := water } := by
          have hq : ¬ water ≤ c.water := by have := HLE.out; omega
          unfold raiseC
          rw [if_neg hq]
          rfl
        refine ⟨K3, v13, v23, _, ⟨by rw [hk]; exact hd3, by rw [hk]; exact hrr, (H1.out.2.1.mono (fun _ h => h.elim)).trans mv3, H1.out.2.2.1.mv mv3 ?_⟩⟩
        rintro (q | q | q) <;> omega
      clear hd3 mv3
      go_wp2_with fail
      go_meet
      exact ⟨rfl, HE⟩
  case rest =>
    obtain ⟨rfl, hk0⟩ := hcut
    obtain ⟨K2, v12, v22, I2, hkn⟩ := hk0.out
    have HKN := hid hkn
    obtain ⟨d, hd⟩ : ∃ d, raiseC c water = d := ⟨_, rfl⟩
    have hdi := is_raise (water := water) HI.out
    have hst2 := st_raise HST.out.1 HW.out.1
    rw [hd] at hkn HKN HRR hdi hst2
    have HDI := hid (And.intro hdi hst2)
    obtain ⟨oa2, cap2, e2, _, hg2⟩ := hkn.dc.l.form
    obtain ⟨n2, hn2⟩ : ∃ n2, (A.map knOf ++ knOf d :: Bs.map knOf).length = n2 := ⟨_, rfl⟩
    obtain ⟨g2, hg2⟩ := hg2 (by simp; omega)
    rw [hn2] at e2
    subst e2 hg2
    have x4c := hkn.dc.c4
    have t2c : wc.cell? ⟨g2, ja * 3 + 2, none⟩ = some (.int .i64 d.water) := by rw [← HJA.out]; exact hkn.dc.l.cell knL hn2 (j := A.length) (x := knOf d) (by simp) 2 (by omega)
    have hj3 : (ja : Int) < (n2 : Int) := by rw [← hn2, ← HJA.out]; simp; omega
    have y0 : wc.cell? ⟨A0, 0, none⟩ = some (.int .i64 a) := by unfold World.cell?; rw [hkn.box.at_]; rfl
    have y1 : wc.cell? ⟨A0, 1, none⟩ = some (.int .i64 i) := by unfold World.cell?; rw [hkn.box.at_]; rfl
    have hsm2 := rel_small hkn.rel hst2 HST.out.2
    have HSM2 := hid hsm2
    have HIT := hid (item_any hkn.dc (by omega) a i seq)
    clear hkn hk0 hd hdi hst2 hn2 hsm2 H1 x4 t2 hj'
    rcases HRR.out with ⟨q1, rfl, rfl, rfl⟩ | ⟨e, q1, q2, rfl, rfl, rfl⟩ | ⟨q1, q2, q3, rfl, rfl, rfl⟩ | ⟨q1, q2, q3, q4, rfl, rfl, rfl⟩
    · have dsw : decide (seq < d.water) = true := by simpa using q1
      have HE : Hid (PO (.returned (.tuple #[.int .i64 4, .string ⟨#[]⟩])) wc) := by
        rw [← HPO.out]
        exact ⟨rfl, _, _, _, _, _, HKN.out.dc, HKN.out.rel, HKN.out.mv⟩
      clear q1 HRR
      generalize d.water = dw at *
      go_wp2
      exact HE.out
    · have hans := (HDI.out.2.cl d (by simp)).en e (enAt_some q1).1
      have HNON := hid hans.non
      clear hans
      have dsw : decide (seq < d.water) = false := by simpa using q2
      have HQ := hid q1
      clear HRR
      obtain ⟨dw, hdw⟩ : ∃ dw, d.water = dw := ⟨_, rfl⟩
      rw [hdw] at t2c dsw
      clear hdw
      go_wp2_with fail
      refine HIT.out.mono ?_
      rintro _ w4 ⟨v, rfl, hf, hb4⟩
      have m4 := Mv.of_below hb4 K2 (fun _ => t + 9)
      have hd4 := HKN.out.dc.mv m4 id id id
      have hb4x := HKN.out.box.mv m4 id
      have mv4 := HKN.out.mv.trans (m4.mono (T' := T3 t) (fun _ h => h.elim))
      obtain ⟨K4, hK4⟩ : ∃ K4, ext wc K2 (fun _ => t + 9) = K4 := ⟨_, rfl⟩
      rw [hK4] at hd4 hb4x mv4
      have hit := rel_item HKN.out.rel HDI.out.2 (by simp) HDI.out.1 hf
      obtain ⟨L1, L2, hI, rfl⟩ : ∃ L1 L2, I2 = L1 ++ snOf d e :: L2 ∧ v = (L1.length : Nat) := by
        rcases hit with ⟨e1, _⟩ | ⟨e', L1, L2, e1, e2, e3⟩
        · exact absurd (HQ.out.symm.trans e1) (by simp)
        · obtain rfl : e = e' := Option.some.inj (HQ.out.symm.trans e1)
          exact ⟨L1, L2, e2, e3⟩
      obtain ⟨oi, ci, ei, _, hgi⟩ := hd4.i.form
      obtain ⟨nI, hnI⟩ : ∃ nI, I2.length = nI := ⟨_, rfl⟩
      have hlI : I2.length = L1.length + 1 + L2.length := by rw [hI]; simp; omega
      obtain ⟨gi, hgi⟩ := hgi (by omega)
      rw [hnI] at ei
      subst ei hgi
      have x5 := hd4.c5
      have t3 : w4.cell? ⟨gi, L1.length * 5 + 3, none⟩ = some (.bool e.ans) := hd4.i.cell snL hnI (x := snOf d e) (by rw [hI]; simp) 3 (by omega)
      have t4 : w4.cell? ⟨gi, L1.length * 5 + 4, none⟩ = some (.string e.rep) := hd4.i.cell snL hnI (x := snOf d e) (by rw [hI]; simp) 4 (by omega)
      have hl' : (L1.length : Int) < (nI : Int) := by omega
      have hl0 : decide ((0 : Int) ≤ (L1.length : Int)) = true := by simp
      have hl1 : (0 : Int) ≤ (L1.length : Int) := by omega
      have HE : Hid (∀ k, PO (.returned (.tuple #[.int .i64 (if e.ans then 3 else 2), .string e.rep])) (w4.drewN k)) := fun k => by
        rw [← HPO.out]
        have mk : Mv (fun _ => False) w4 (w4.drewN k) K4 K4 := ⟨rfl, rfl, rfl, Nat.le_refl _, fun _ _ => rfl, fun _ _ _ => rfl⟩
        exact ⟨rfl, _, _, _, _, _, hd4.mv mk id id id, HKN.out.rel, mv4.trans (mk.mono (fun _ h => h.elim))⟩
      obtain ⟨jl, hjl⟩ : ∃ jl, L1.length = jl := ⟨_, rfl⟩
      rw [hjl] at t3 t4 hl' hl0 hl1 ⊢
      clear hit hf hb4 m4 hK4 hd4 hb4x mv4 HIT hI hnI hlI hjl q1 q2 HQ
      cases hans : e.ans
      · rw [hans] at t3
        have HE2 : Hid (PO (.returned (.tuple #[.int .i64 2, .string ⟨#[]⟩])) w4) := by
          have h9 := HE.out 0
          rw [hans, HNON.out hans] at h9
          exact h9
        clear HE HNON hans t4
        go_wp2
        exact HE2.out
      · rw [hans] at t3
        have HE2 : Hid (∀ k, PO (.returned (.tuple #[.int .i64 3, .string e.rep])) (w4.drewN k)) := fun k => by
          have h9 := HE.out k
          rw [hans] at h9
          exact h9
        clear HE HNON hans
        generalize e.rep = er at *
        go_wp2_with fail
        go_quiet (fail)
        go_wp2
        exact HE2.out nq
    · have dsw : decide (seq < d.water) = false := by simpa using q1
      have HQ := hid q2
      clear HRR
      obtain ⟨dw, hdw⟩ : ∃ dw, d.water = dw := ⟨_, rfl⟩
      rw [hdw] at t2c dsw
      clear hdw
      go_wp2_with fail
      refine HIT.out.mono ?_
      rintro _ w4 ⟨v, rfl, hf, hb4⟩
      have m4 := Mv.of_below hb4 K2 (fun _ => t + 9)
      have hd4 := HKN.out.dc.mv m4 id id id
      have hb4x := HKN.out.box.mv m4 id
      have mv4 := HKN.out.mv.trans (m4.mono (T' := T3 t) (fun _ h => h.elim))
      obtain ⟨K4, hK4⟩ : ∃ K4, ext wc K2 (fun _ => t + 9) = K4 := ⟨_, rfl⟩
      rw [hK4] at hd4 hb4x mv4
      have hit := rel_item HKN.out.rel HDI.out.2 (by simp) HDI.out.1 hf
      obtain rfl : v = -1 := by
        rcases hit with ⟨_, e⟩ | ⟨e, L1, L2, e1, _⟩
        · exact e
        · exact absurd (HQ.out.symm.trans e1) (by simp)
      have H4 : Hid (DC K4 w4 B t x g (.slice (some ⟨g2, 0, none⟩) n2 cap2) v22 (A.map knOf ++ knOf d :: Bs.map knOf) I2 ∧ TB K4 w4 (t + 9) A0 (.cells #[.int .i64 a, .int .i64 i] 37) ∧ Mv (T3 t) w w4 K K4) := ⟨hd4, hb4x, mv4⟩
      clear hit hf hb4 m4 hK4 hd4 hb4x mv4 HIT y0 y1 x4c t2c
      obtain ⟨Z, f, hf1, hf2⟩ : ∃ (Z : Type) (f : Z → World), (∀ z, Below w4.heap.size w4 (f z)) ∧ ∀ w', Below w4.heap.size w4 w' → ∃ z, w' = f z := ⟨{ w' // Below w4.heap.size w4 w' }, Subtype.val, fun z => z.2, fun w' h => ⟨⟨w', h⟩, rfl⟩⟩
      have HZD : Hid (∀ z, DC (ext w4 K4 (fun _ => t + 9)) (f z) B t x g (.slice (some ⟨g2, 0, none⟩) n2 cap2) v22 (A.map knOf ++ knOf d :: Bs.map knOf) I2 ∧ Mv (T3 t) w (f z) K (ext w4 K4 (fun _ => t + 9)) ∧ TB (ext w4 K4 (fun _ => t + 9)) (f z) (t + 9) A0 (.cells #[.int .i64 a, .int .i64 i] 37)) := fun z => by
        have mz := Mv.of_below (hf1 z) K4 (fun _ => t + 9)
        exact ⟨H4.out.1.mv mz id id id, H4.out.2.2.trans (mz.mono (fun _ h => h.elim)), H4.out.2.1.mv mz id⟩
      obtain ⟨ge, hge⟩ : ∃ ge : Int, (g.en : Int) = ge := ⟨_, rfl⟩
      obtain ⟨gb, hgb⟩ : ∃ gb : Int, (g.by_ : Int) = gb := ⟨_, rfl⟩
      obtain ⟨gr, hgr⟩ : ∃ gr : Int, (g.rs : Int) = gr := ⟨_, rfl⟩
      obtain ⟨bn, hbn⟩ : ∃ bn : Int, ((tot g.rs (A ++ d :: Bs) : Nat) : Int) = bn := ⟨_, rfl⟩
      obtain ⟨en, hen⟩ : ∃ en : Int, (d.ents.length : Int) = en := ⟨_, rfl⟩
      have x1 : ∀ z, (f z).cell? ⟨x, 1, none⟩ = some (.int .i64 ge) := fun z => by rw [← hge]; exact (HZD.out z).1.c1
      have x2 : ∀ z, (f z).cell? ⟨x, 2, none⟩ = some (.int .i64 gb) := fun z => by rw [← hgb]; exact (HZD.out z).1.c2
      have x3 : ∀ z, (f z).cell? ⟨x, 3, none⟩ = some (.int .i64 gr) := fun z => by rw [← hgr]; exact (HZD.out z).1.c3
      have z0 : ∀ z, (f z).cell? ⟨A0, 0, none⟩ = some (.int .i64 a) := fun z => by unfold World.cell?; rw [(HZD.out z).2.2.at_]; rfl
      have z1 : ∀ z, (f z).cell? ⟨A0, 1, none⟩ = some (.int .i64 i) := fun z => by unfold World.cell?; rw [(HZD.out z).2.2.at_]; rfl
      have HOF : Hid (∀ z, Calls Try.prog 39 #[ptr x, whoV a i] (f z) fun e w'' => e = .returned (.int .i64 en) ∧ ∃ z', w'' = f z') := fun z => by
        have h9 := of_any (HZD.out z).1 (by have := HSM2.out; omega) a i
        rw [rel_of HKN.out.rel (c := d) (by simp) HDI.out.1, hen] at h9
        refine h9.mono ?_
        rintro _ w'' ⟨rfl, hb⟩
        exact ⟨rfl, hf2 _ ((hf1 z).trans (hb.mono (hf1 z).size))⟩
      have HBY : Hid (∀ z, Calls Try.prog 28 #[ptr x] (f z) fun e w'' => e = .returned (.int .i64 bn) ∧ ∃ z', w'' = f z') := fun z => by
        refine (dbytes_any (HZD.out z).1 (by have := HSM2.out; omega) (rel_sizes HKN.out.rel HDI.out.2 HST.out.2)).mono ?_
        rintro _ _ ⟨rfl, rfl⟩
        exact ⟨by rw [rel_bytes g.rs (A ++ d :: Bs) I2 HDI.out.2.who HKN.out.rel.i HKN.out.rel.w, hbn], z, rfl⟩
      have HZ0 : Hid (∃ z, w4.drew = f z) := hf2 _ (Below.refl _ _).drew
      have instZ : Nonempty Z := ⟨HZ0.out.choose⟩
      have hcr := HST.out.2.r
      have hcb := HST.out.2.b
      have hstt := HDI.out.2.tot
      have hdl := (HDI.out.2.cl d (by simp)).len
      have hsum : wrap64 (bn + gr) = bn + gr := by unfold wrap64; omega
      have HE : Hid (∀ z, PO (.returned (.tuple #[.int .i64 5, .string ⟨#[]⟩])) (f z)) := fun z => by
        rw [← HPO.out]
        exact ⟨rfl, _, _, _, _, _, (HZD.out z).1, HKN.out.rel, (HZD.out z).2.1⟩
      by_cases hmany : g.en ≤ d.ents.length
      · have dE : (en == ge) = true := by simp; omega
        clear hcr hcb hstt hdl hge hgb hgr hbn hen hf1 hf2
        clear q1 q2 q3
        go_wp2_with fail
        refine wp_region_class f (by kernel_rfl) (by kernel_rfl) HZ0.out ?_
        repeat (go_big_quiet_step (first | (go_at_call 39; exact HOF.out _) | (go_at_call 28; exact HBY.out _)))
        refine wpQuiet_nil ?_
        rintro _ ⟨z, rfl⟩
        go_wp2
        exact HE.out z
      · have dE : (en == ge) = false := by simp; omega
        have dB : decide (gb < bn + gr) = true := by simp; omega
        clear hcr hcb hstt hdl hge hgb hgr hbn hen hf1 hf2
        clear q1 q2 q3
        go_wp2_with fail
        refine wp_region_class f (by kernel_rfl) (by kernel_rfl) HZ0.out ?_
        repeat (go_big_quiet_step (first | (go_at_call 39; exact HOF.out _) | (go_at_call 28; exact HBY.out _)))
        refine wpQuiet_nil ?_
        rintro _ ⟨z, rfl⟩
        go_wp2
        exact HE.out z
    · have dsw : decide (seq < d.water) = false := by simpa using q1
      have HQ := hid q2
      clear HRR
      obtain ⟨dw, hdw⟩ : ∃ dw, d.water = dw := ⟨_, rfl⟩
      rw [hdw] at t2c dsw
      clear hdw
      go_wp2_with fail
      refine HIT.out.mono ?_
      rintro _ w4 ⟨v, rfl, hf, hb4⟩
      have m4 := Mv.of_below hb4 K2 (fun _ => t + 9)
      have hd4 := HKN.out.dc.mv m4 id id id
      have hb4x := HKN.out.box.mv m4 id
      have mv4 := HKN.out.mv.trans (m4.mono (T' := T3 t) (fun _ h => h.elim))
      obtain ⟨K4, hK4⟩ : ∃ K4, ext wc K2 (fun _ => t + 9) = K4 := ⟨_, rfl⟩
      rw [hK4] at hd4 hb4x mv4
      have hit := rel_item HKN.out.rel HDI.out.2 (by simp) HDI.out.1 hf
      obtain rfl : v = -1 := by
        rcases hit with ⟨_, e⟩ | ⟨e, L1, L2, e1, _⟩
        · exact e
        · exact absurd (HQ.out.symm.trans e1) (by simp)
      have H4 : Hid (DC K4 w4 B t x g (.slice (some ⟨g2, 0, none⟩) n2 cap2) v22 (A.map knOf ++ knOf d :: Bs.map knOf) I2 ∧ TB K4 w4 (t + 9) A0 (.cells #[.int .i64 a, .int .i64 i] 37) ∧ Mv (T3 t) w w4 K K4) := ⟨hd4, hb4x, mv4⟩
      clear hit hf hb4 m4 hK4 hd4 hb4x mv4 HIT y0 y1 x4c t2c
      obtain ⟨Z, f, hf1, hf2⟩ : ∃ (Z : Type) (f : Z → World), (∀ z, Below w4.heap.size w4 (f z)) ∧ ∀ w', Below w4.heap.size w4 w' → ∃ z, w' = f z := ⟨{ w' // Below w4.heap.size w4 w' }, Subtype.val, fun z => z.2, fun w' h => ⟨⟨w', h⟩, rfl⟩⟩
      have HZD : Hid (∀ z, DC (ext w4 K4 (fun _ => t + 9)) (f z) B t x g (.slice (some ⟨g2, 0, none⟩) n2 cap2) v22 (A.map knOf ++ knOf d :: Bs.map knOf) I2 ∧ Mv (T3 t) w (f z) K (ext w4 K4 (fun _ => t + 9)) ∧ TB (ext w4 K4 (fun _ => t + 9)) (f z) (t + 9) A0 (.cells #[.int .i64 a, .int .i64 i] 37)) := fun z => by
        have mz := Mv.of_below (hf1 z) K4 (fun _ => t + 9)
        exact ⟨H4.out.1.mv mz id id id, H4.out.2.2.trans (mz.mono (fun _ h => h.elim)), H4.out.2.1.mv mz id⟩
      obtain ⟨ge, hge⟩ : ∃ ge : Int, (g.en : Int) = ge := ⟨_, rfl⟩
      obtain ⟨gb, hgb⟩ : ∃ gb : Int, (g.by_ : Int) = gb := ⟨_, rfl⟩
      obtain ⟨gr, hgr⟩ : ∃ gr : Int, (g.rs : Int) = gr := ⟨_, rfl⟩
      obtain ⟨bn, hbn⟩ : ∃ bn : Int, ((tot g.rs (A ++ d :: Bs) : Nat) : Int) = bn := ⟨_, rfl⟩
      obtain ⟨en, hen⟩ : ∃ en : Int, (d.ents.length : Int) = en := ⟨_, rfl⟩
      have x1 : ∀ z, (f z).cell? ⟨x, 1, none⟩ = some (.int .i64 ge) := fun z => by rw [← hge]; exact (HZD.out z).1.c1
      have x2 : ∀ z, (f z).cell? ⟨x, 2, none⟩ = some (.int .i64 gb) := fun z => by rw [← hgb]; exact (HZD.out z).1.c2
      have x3 : ∀ z, (f z).cell? ⟨x, 3, none⟩ = some (.int .i64 gr) := fun z => by rw [← hgr]; exact (HZD.out z).1.c3
      have z0 : ∀ z, (f z).cell? ⟨A0, 0, none⟩ = some (.int .i64 a) := fun z => by unfold World.cell?; rw [(HZD.out z).2.2.at_]; rfl
      have z1 : ∀ z, (f z).cell? ⟨A0, 1, none⟩ = some (.int .i64 i) := fun z => by unfold World.cell?; rw [(HZD.out z).2.2.at_]; rfl
      have HOF : Hid (∀ z, Calls Try.prog 39 #[ptr x, whoV a i] (f z) fun e w'' => e = .returned (.int .i64 en) ∧ ∃ z', w'' = f z') := fun z => by
        have h9 := of_any (HZD.out z).1 (by have := HSM2.out; omega) a i
        rw [rel_of HKN.out.rel (c := d) (by simp) HDI.out.1, hen] at h9
        refine h9.mono ?_
        rintro _ w'' ⟨rfl, hb⟩
        exact ⟨rfl, hf2 _ ((hf1 z).trans (hb.mono (hf1 z).size))⟩
      have HBY : Hid (∀ z, Calls Try.prog 28 #[ptr x] (f z) fun e w'' => e = .returned (.int .i64 bn) ∧ ∃ z', w'' = f z') := fun z => by
        refine (dbytes_any (HZD.out z).1 (by have := HSM2.out; omega) (rel_sizes HKN.out.rel HDI.out.2 HST.out.2)).mono ?_
        rintro _ _ ⟨rfl, rfl⟩
        exact ⟨by rw [rel_bytes g.rs (A ++ d :: Bs) I2 HDI.out.2.who HKN.out.rel.i HKN.out.rel.w, hbn], z, rfl⟩
      have HZ0 : Hid (∃ z, w4.drew = f z) := hf2 _ (Below.refl _ _).drew
      have instZ : Nonempty Z := ⟨HZ0.out.choose⟩
      have hcr := HST.out.2.r
      have hcb := HST.out.2.b
      have hstt := HDI.out.2.tot
      have hdl := (HDI.out.2.cl d (by simp)).len
      have hsum : wrap64 (bn + gr) = bn + gr := by unfold wrap64; omega
      have dE : (en == ge) = false := by simp; omega
      have dB : decide (gb < bn + gr) = false := by simp; omega
      clear hcr hcb hstt hdl hge hgb hgr hbn hen hf1 hf2
      clear q1 q2 q3 q4
      go_wp2_with fail
      refine wp_region_class f (by kernel_rfl) (by kernel_rfl) HZ0.out ?_
      repeat (go_big_quiet_step (first | (go_at_call 39; exact HOF.out _) | (go_at_call 28; exact HBY.out _)))
      refine wpQuiet_nil ?_
      rintro _ ⟨z, rfl⟩
      obtain ⟨hdz, hmz, hkz⟩ := HZD.out z
      obtain ⟨KW, hKW⟩ : ∃ KW, ext w4 K4 (fun _ => t + 9) = KW := ⟨_, rfl⟩
      rw [hKW] at hdz hmz hkz
      obtain ⟨W, hW⟩ : ∃ W, f z = W := ⟨_, rfl⟩
      rw [hW] at hdz hmz hkz ⊢
      have hBW : B ≤ W.heap.size := Nat.le_trans HW.out.2 hmz.size
      have hsm := HSM2.out
      obtain ⟨ob, cb, e2, _, _⟩ := hdz.i.form
      obtain ⟨nI, hnI⟩ : ∃ nI, I2.length = nI := ⟨_, rfl⟩
      rw [hnI] at e2
      subst e2
      obtain ⟨oa3, n3, cc3, wI, K3, r2, c52, f52, hd2, mv2⟩ := hdz.putI hBW ⟨a, i, seq, false, ⟨#[]⟩⟩ (by omega)
      simp only at r2
      have x5W := hdz.c5
      have y0 : W.cell? ⟨A0, 0, none⟩ = some (.int .i64 a) := by unfold World.cell?; rw [hkz.at_]; rfl
      have y1 : W.cell? ⟨A0, 1, none⟩ = some (.int .i64 i) := by unfold World.cell?; rw [hkz.at_]; rfl
      obtain ⟨wJ, hwJ⟩ : ∃ wJ, W.alloc (.cells #[.int .i64 a, .int .i64 i, .int .i64 seq, .bool false, .string ⟨#[]⟩] 92) = wJ := ⟨_, rfl⟩
      have jx5 : wJ.cell? ⟨x, 5, none⟩ = some (.slice ob nI cb) := by rw [← hwJ]; exact (World.cell?_of_block (a := ⟨x, 5, none⟩) (heap_alloc_old W _ hdz.me.lt)).trans x5W
      have jy0 : wJ.cell? ⟨A0, 0, none⟩ = some (.int .i64 a) := by rw [← hwJ]; exact (World.cell?_of_block (a := ⟨A0, 0, none⟩) (heap_alloc_old W _ hkz.lt)).trans y0
      have jy1 : wJ.cell? ⟨A0, 1, none⟩ = some (.int .i64 i) := by rw [← hwJ]; exact (World.cell?_of_block (a := ⟨A0, 1, none⟩) (heap_alloc_old W _ hkz.lt)).trans y1
      obtain ⟨NS, hNS⟩ : ∃ NS, W.heap.size = NS := ⟨_, rfl⟩
      rw [hwJ, hNS] at r2
      have R2 := hid r2
      have HE : Hid (PO (.returned (.tuple #[.int .i64 1, .string ⟨#[]⟩])) (wI.setCell ⟨x, 5, none⟩ (.slice oa3 n3 cc3))) := by
        rw [← HPO.out]
        exact ⟨rfl, _, _, _, _, _, hd2, rel_new HKN.out.rel HDI.out.2 HDI.out.1, hmz.trans mv2⟩
      have hb92 := fun w => bld92 w a i seq
      have hb69 := fun w => bls69 w a i seq false ⟨#[]⟩
      clear hdz hmz hkz hKW hW hBW hsm hnI hd2 mv2 r2 x1 x2 x3 z0 z1 hsum dE dB HOF HBY HZD HZ0 instZ HKN HDI HST HSM HSM2 HW HI HQ H4 HRL
      go_wp2_with fail
      go_region_law (first
        | (refine step_app rfl (.tmp 166) (.tmp 170) 69 rfl (.slice ob nI cb) (.slice (some ⟨NS, 0, none⟩) 1 1) _ _ (by go_simp) (by go_simp) (R2.out _) ?_))
      all_goals (
        go_wp2
        exact HE.out)
end
end Go.Proofs.Ytnpffhgmakbdnaa
