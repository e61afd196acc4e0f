/- The document's cache: Ask and Done, whatever comes; New that is refused. -/
import Derived.Test.YtnpffhgmakbdnaaPlRj
namespace Go.Proofs.Ytnpffhgmakbdnaa
open Go.RowKit
section
variable {K K' : Nat → Nat} {w w' : World} {B t x : Nat} {g : Cf} {v1 v2 : Value} {L : List Kn} {I : List Sn} {C : List Cl} {a i seq water : Int}
theorem dask_any {v : Int} {s : ByteArray} {C' : List Cl} (h : DC K w B t x g v1 v2 L I) (hB : B ≤ w.heap.size) (rel : REL C L I) (st : StOk g C) (hg : CfOk g) (hR : AskR g C a i seq water v s C') :
    Calls Try.prog 21 #[ptr x, whoV a i, .int .i64 seq, .int .i64 water] w (AskPostS K w B t x g v s C') := by
  have known : ∀ (A B' : List Cl) (c : Cl), C = A ++ c :: B' → c.is a i → inB seq 1 4294967295 = true → inB water 1 4294967295 = true → Calls Try.prog 21 #[ptr x, whoV a i, .int .i64 seq, .int .i64 water] w (AskPostS K w B t x g v s C') := by
    rintro A B' c rfl hi hs hw
    have hok := st.cl c (by simp)
    have q1 := hok.a; have q2 := hok.i
    have e1 := hi.1; have e2 := hi.2
    exact dask_known h hB rel st hg (Vd.of (by simp [inB]; omega) (by simp [inB]; omega) hs hw) hi (inB_is hw) hR
  cases hR with
  | bad q => exact dask_bad h rel q
  | old A B' c q hi h3 h4 => exact known A B' c q hi h3 h4
  | there A B' c e q hi h3 h4 => exact known A B' c q hi h3 h4
  | full A B' c q hi h3 h4 => exact known A B' c q hi h3 h4
  | new A B' c q hi h3 h4 => exact known A B' c q hi h3 h4
  | oldU hn h1 h2 h3 h4 h5 => exact dask_oldU h rel st hg (Vd.of h1 h2 h3 h4) hn h5
  | fullU hn h1 h2 h3 h4 h5 h6 => exact dask_fullU h rel st hg (Vd.of h1 h2 h3 h4) hn h5 h6
  | newU b m hn h1 h2 h3 h4 h5 h6 h7 => exact dask_newU h hB rel st hg (Vd.of h1 h2 h3 h4) hn h5 h6 h7
theorem dnew_bad (w : World) (c e b r : Int) (h : mayB c e b r = false) : Calls Try.prog 8 #[.agg #[.int .i64 c, .int .i64 e, .int .i64 b, .int .i64 r]] w fun x w' => x = .returned (.tuple #[.pointer none, .int .i64 150]) ∧ Below w.heap.size w w' := by
  obtain ⟨w0, hw0⟩ : ∃ w0, w.alloc (.cells #[.int .i64 c, .int .i64 e, .int .i64 b, .int .i64 r] 23) = w0 := ⟨_, rfl⟩
  have B0 : Below w.heap.size w w0 := by rw [← hw0]; exact below_box _ _
  have kb : w0.heap[w.heap.size]? = some (.cells #[.int .i64 c, .int .i64 e, .int .i64 b, .int .i64 r] 23) := by rw [← hw0]; exact (MapKept.heap_alloc w _).1
  have HB := hid B0
  obtain ⟨A0, hA⟩ : ∃ A0, w.heap.size = A0 := ⟨_, rfl⟩
  rw [hA] at kb HB ⊢
  have k0 : w0.cell? ⟨A0, 0, none⟩ = some (.int .i64 c) := by unfold World.cell?; rw [kb]; rfl
  have k1 : w0.cell? ⟨A0, 1, none⟩ = some (.int .i64 e) := by unfold World.cell?; rw [kb]; rfl
  have k2 : w0.cell? ⟨A0, 2, none⟩ = some (.int .i64 b) := by unfold World.cell?; rw [kb]; rfl
  have k3 : w0.cell? ⟨A0, 3, none⟩ = some (.int .i64 r) := by unfold World.cell?; rw [kb]; rfl
  have HM := hid h
  clear kb B0 h
  by_cases c0 : c < 1
  · have d0 : decide (c < 1) = true := by simpa using c0
    clear c0
    go_enter Try.func8, Try.ntmps8
    go_wp2
    go_ret2
    exact ⟨rfl, HB.out⟩
  have d0 : decide (c < 1) = false := by simpa using c0
  by_cases c1 : 64 < c
  · have d1 : decide (64 < c) = true := by simpa using c1
    clear c0 c1
    go_enter Try.func8, Try.ntmps8
    go_wp2
    go_ret2
    exact ⟨rfl, HB.out⟩
  have d1 : decide (64 < c) = false := by simpa using c1
  by_cases c2 : e < 1
  · have d2 : decide (e < 1) = true := by simpa using c2
    clear c0 c1 c2
    go_enter Try.func8, Try.ntmps8
    go_wp2
    go_ret2
    exact ⟨rfl, HB.out⟩
  have d2 : decide (e < 1) = false := by simpa using c2
  by_cases c3 : 64 < e
  · have d3 : decide (64 < e) = true := by simpa using c3
    clear c0 c1 c2 c3
    go_enter Try.func8, Try.ntmps8
    go_wp2
    go_ret2
    exact ⟨rfl, HB.out⟩
  have d3 : decide (64 < e) = false := by simpa using c3
  by_cases c4 : r < 64
  · have d4 : decide (r < 64) = true := by simpa using c4
    clear c0 c1 c2 c3 c4
    go_enter Try.func8, Try.ntmps8
    go_wp2
    go_ret2
    exact ⟨rfl, HB.out⟩
  have d4 : decide (r < 64) = false := by simpa using c4
  by_cases c5 : 1100 < r
  · have d5 : decide (1100 < r) = true := by simpa using c5
    clear c0 c1 c2 c3 c4 c5
    go_enter Try.func8, Try.ntmps8
    go_wp2
    go_ret2
    exact ⟨rfl, HB.out⟩
  have d5 : decide (1100 < r) = false := by simpa using c5
  by_cases c6 : b < r
  · have d6 : decide (b < r) = true := by simpa using c6
    clear c0 c1 c2 c3 c4 c5 c6
    go_enter Try.func8, Try.ntmps8
    go_wp2
    go_ret2
    exact ⟨rfl, HB.out⟩
  have d6 : decide (b < r) = false := by simpa using c6
  by_cases c7 : 1048576 < b
  · have d7 : decide (1048576 < b) = true := by simpa using c7
    clear c0 c1 c2 c3 c4 c5 c6 c7
    go_enter Try.func8, Try.ntmps8
    go_wp2
    go_ret2
    exact ⟨rfl, HB.out⟩
  have d7 : decide (1048576 < b) = false := by simpa using c7
  exfalso
  have h := HM.out
  simp [mayB, inB] at h
  omega
/-- what the document's Done tells is what the program's tells -/
theorem rel_done {v v' : Int} {rep : ByteArray} {C' : List Cl} {I' : List Sn} (rel : REL C L I) (st : StOk g C) (hR : DoneR g C a i seq rep v C') (hS : DoneS g I a i seq rep v' I') : v' = v ∧ REL C' L I' := by
  have noitem : (∀ c ∈ C, c.is a i → enAt c.ents seq = none) → ∀ y ∈ I, ¬ y.is a i seq := fun hn y hy hyi => by
    obtain ⟨c, hc, q⟩ := rel.w y hy
    have hci : c.is a i := ⟨q.1.trans hyi.1, q.2.trans hyi.2.1⟩
    have : y ∈ I.filter (whoB c.a c.i) := List.mem_filter.2 ⟨hy, whoB_is.2 ⟨q.1.symm, q.2.symm⟩⟩
    rw [rel.i c hc] at this
    obtain ⟨e, he, rfl⟩ := List.mem_map.1 this
    exact enAt_none (hn c hc hci) e he hyi.2.2
  have item : ∀ (L1 L2 : List Sn) (y : Sn), I = L1 ++ y :: L2 → y.is a i seq → ∃ c ∈ C, c.is a i ∧ ∃ e, enAt c.ents seq = some e ∧ y = snOf c e := fun L1 L2 y hI hyi => by
    obtain ⟨c, hc, q⟩ := rel.w y (by rw [hI]; simp)
    have : y ∈ I.filter (whoB c.a c.i) := List.mem_filter.2 ⟨by rw [hI]; simp, whoB_is.2 ⟨q.1.symm, q.2.symm⟩⟩
    rw [rel.i c hc] at this
    obtain ⟨e, he, rfl⟩ := List.mem_map.1 this
    refine ⟨c, hc, ⟨q.1.trans hyi.1, q.2.trans hyi.2.1⟩, e, ?_, rfl⟩
    rw [← hyi.2.2]
    exact enAt_is (st.cl c hc).nd he
  have there : ∀ c ∈ C, c.is a i → ∀ e, enAt c.ents seq = some e → snOf c e ∈ I ∧ (snOf c e).is a i seq := fun c hc hci e he => by
    obtain ⟨q1, q2⟩ := enAt_some he
    have : snOf c e ∈ I.filter (whoB c.a c.i) := by rw [rel.i c hc]; exact List.mem_map.2 ⟨e, q1, rfl⟩
    exact ⟨(List.mem_filter.1 this).1, hci.1, hci.2, q2⟩
  have busy_some : ∀ {l : List En}, busyE (enAt l seq) = true → ∃ e, enAt l seq = some e ∧ e.ans = false := fun {l} h => by
    cases h1 : enAt l seq with
    | none => rw [h1] at h; cases h
    | some e => rw [h1] at h; exact ⟨e, rfl, by simpa [busyE] using h⟩
  have okbusy : ∀ (A B' : List Cl) (c : Cl) (E1 E2 : List En) (e : En), C = A ++ c :: B' → c.ents = E1 ++ e :: E2 → e.seq = seq → enAt c.ents seq = some e := by
    rintro A B' c E1 E2 e rfl q3 q4
    rw [← q4]
    exact enAt_is (st.cl c (by simp)).nd (by rw [q3]; simp)
  cases hS with
  | none hno =>
    cases hR with
    | none => exact ⟨rfl, rel⟩
    | long c hc hci hb =>
      obtain ⟨e, q1, _⟩ := busy_some hb
      obtain ⟨m1, m2⟩ := there c hc hci e q1
      exact absurd m2 (hno _ m1)
    | ok A B' c E1 E2 e q hci q3 q4 =>
      obtain ⟨m1, m2⟩ := there c (by rw [q]; simp) hci e (okbusy A B' c E1 E2 e q q3 q4)
      exact absurd m2 (hno _ m1)
  | done L1 L2 y hI hy hdn =>
    obtain ⟨c, hc, hci, e, q1, rfl⟩ := item L1 L2 y hI hy
    have hans : e.ans = true := hdn
    cases hR with
    | none => exact ⟨rfl, rel⟩
    | long c' hc' hci' hb =>
      obtain rfl := same_who st hc' hc hci' hci
      obtain ⟨e', q2, q3⟩ := busy_some hb
      rw [q1] at q2
      cases q2
      rw [hans] at q3
      cases q3
    | ok A B' c' E1 E2 e' q hci' q3 q4 q5 =>
      obtain rfl := same_who st (by rw [q]; simp) hc hci' hci
      have := okbusy A B' c' E1 E2 e' q q3 q4
      rw [q1] at this
      cases this
      rw [hans] at q5
      cases q5
  | long L1 L2 y hI hy hdn _ hlong =>
    obtain ⟨c, hc, hci, e, q1, rfl⟩ := item L1 L2 y hI hy
    have hans : e.ans = false := hdn
    cases hR with
    | none hb =>
      have := hb c hc hci
      rw [q1] at this
      simp [busyE, hans] at this
    | long => exact ⟨rfl, rel⟩
    | ok A B' c' E1 E2 e' q hci' q3 q4 q5 q6 => omega
  | ok L1 L2 y hI hy hdn hfi hle =>
    obtain ⟨c, hc, hci, e, q1, rfl⟩ := item L1 L2 y hI hy
    have hans : e.ans = false := hdn
    cases hR with
    | none hb =>
      have := hb c hc hci
      rw [q1] at this
      simp [busyE, hans] at this
    | long _ _ _ _ q => omega
    | ok A B' c' E1 E2 e' q hci' q3 q4 q5 q6 =>
      obtain rfl := same_who st (by rw [q]; simp) hc hci' hci
      have h9 := okbusy A B' c' E1 E2 e' q q3 q4
      rw [q1] at h9
      cases h9
      subst q
      refine ⟨rfl, ?_⟩
      have hok := st.cl c' hc
      have hf := rel.i c' hc
      rw [hI, List.filter_append, List.filter_cons_of_pos (show whoB c'.a c'.i (snOf c' e) = true from whoB_is.2 ⟨rfl, rfl⟩), q3, List.map_append, List.map_cons] at hf
      have hE1 : ∀ z ∈ E1.map (snOf c'), ¬ z.is a i seq := fun z hz hzi => by
        obtain ⟨f, hf1, rfl⟩ := List.mem_map.1 hz
        have hnd := hok.nd
        rw [q3, List.map_append, List.map_cons] at hnd
        refine (nd_mid hnd).1 ?_
        rw [q4, ← show f.seq = seq from hzi.2.2]
        exact List.mem_map.2 ⟨f, hf1, rfl⟩
      obtain ⟨g1, _, g2⟩ := first_unique (q := fun z : Sn => z.is a i seq) hf hy hy (fun z hz => hfi z (List.mem_filter.1 hz).1) hE1
      refine ⟨by rw [rel.l]; simp [knOf], fun d hd => ?_, fun z hz => ?_⟩
      · rcases mem_mid.1 hd with rfl | hd2
        · simp only
          rw [List.filter_append, List.filter_cons_of_pos (show whoB c'.a c'.i { snOf c' e with dn := true, rep := rep } = true from whoB_is.2 ⟨rfl, rfl⟩), g1, g2, List.map_append, List.map_cons]
          simp [snOf, q4]
          rfl
        · have hne : ∀ z : Sn, z.a = c'.a → z.i = c'.i → whoB d.a d.i z = false := fun z e1 e2 => by
            rw [Bool.eq_false_iff]
            intro q
            have q7 := whoB_is.1 q
            have hn := no_in st hci
            have hdi : d.is a i := ⟨q7.1.symm.trans (e1.trans hci.1), q7.2.symm.trans (e2.trans hci.2)⟩
            rcases List.mem_append.1 hd2 with m | m
            · exact hn.1 d m hdi
            · exact hn.2 d m hdi
          have h8 := rel.i d (mem_mid.2 (.inr hd2))
          rw [hI, List.filter_append, List.filter_cons_of_neg (show ¬ whoB d.a d.i (snOf c' e) = true by rw [hne _ rfl rfl]; simp)] at h8
          rw [List.filter_append, List.filter_cons_of_neg (show ¬ whoB d.a d.i { snOf c' e with dn := true, rep := rep } = true by rw [hne _ rfl rfl]; simp)]
          exact h8
      · have hz2 : ∃ z' ∈ I, z'.a = z.a ∧ z'.i = z.i := by
          rcases mem_mid.1 hz with rfl | m
          · exact ⟨snOf c' e, by rw [hI]; simp, rfl, rfl⟩
          · exact ⟨z, by rw [hI]; exact mem_mid.2 (.inr m), rfl, rfl⟩
        obtain ⟨z', hz', e1, e2⟩ := hz2
        obtain ⟨d, hd, hdi⟩ := rel.w z' hz'
        rw [e1, e2] at hdi
        rcases mem_mid.1 hd with rfl | hd2
        · exact ⟨_, mem_mid.2 (.inl rfl), hdi⟩
        · exact ⟨d, mem_mid.2 (.inr hd2), hdi⟩
end
end Go.Proofs.Ytnpffhgmakbdnaa
