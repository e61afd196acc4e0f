/- The two caches say the same, plainly. -/
import Derived.Test.YtnpffhgmakbdnaaPlRe
namespace Go.Proofs.Ytnpffhgmakbdnaa
open Go.RowKit
def knOf (c : Cl) : Kn := ⟨c.a, c.i, c.water⟩
def snOf (c : Cl) (e : En) : Sn := ⟨c.a, c.i, e.seq, e.ans, e.rep⟩
def whoB (a i : Int) (y : Sn) : Bool := y.a == a && y.i == i
theorem whoB_is {a i : Int} {y : Sn} : whoB a i y = true ↔ y.a = a ∧ y.i = i := by simp [whoB]
structure REL (C : List Cl) (L : List Kn) (I : List Sn) : Prop where
  l : L = C.map knOf
  i : ∀ c ∈ C, I.filter (whoB c.a c.i) = c.ents.map (snOf c)
  w : ∀ y ∈ I, ∃ c ∈ C, c.is y.a y.i
theorem first_unique {α : Type} {q : α → Prop} : ∀ {A B L1 L2 : List α} {x y : α}, A ++ x :: B = L1 ++ y :: L2 → q x → q y → (∀ z ∈ A, ¬ q z) → (∀ z ∈ L1, ¬ q z) → A = L1 ∧ x = y ∧ B = L2
  | [], _, [], _, _, _, h, _, _, _, _ => by simp at h; exact ⟨rfl, h.1, h.2⟩
  | [], _, z :: L1, _, _, _, h, hx, _, _, h2 => by
    simp at h
    exact absurd (h.1 ▸ hx) (h2 z (by simp))
  | z :: A, _, [], _, _, _, h, _, hy, h1, _ => by
    simp at h
    exact absurd (h.1 ▸ hy) (h1 z (by simp))
  | z :: A, _, u :: L1, _, _, _, h, hx, hy, h1, h2 => by
    simp at h
    obtain ⟨e1, e2, e3⟩ := first_unique h.2 hx hy (fun v hv => h1 v (by simp [hv])) (fun v hv => h2 v (by simp [hv]))
    exact ⟨by rw [h.1, e1], e2, e3⟩
theorem no_in {g : Cf} {A B : List Cl} {c : Cl} {a i : Int} (st : StOk g (A ++ c :: B)) (hi : c.is a i) : (∀ z ∈ A, ¬ z.is a i) ∧ ∀ z ∈ B, ¬ z.is a i := by
  have hn := st.who
  rw [List.map_append, List.map_cons] at hn
  obtain ⟨h1, h2⟩ := nd_mid hn
  refine ⟨fun z hz e => h1 ?_, fun z hz e => h2 ?_⟩
  · rw [hi.1, hi.2]; exact List.mem_map.2 ⟨z, hz, by rw [e.1, e.2]⟩
  · rw [hi.1, hi.2]; exact List.mem_map.2 ⟨z, hz, by rw [e.1, e.2]⟩
/-- which client the document finds -/
theorem rel_client {g : Cf} {A B : List Cl} {c : Cl} {L : List Kn} {I : List Sn} {a i v : Int} (h : REL (A ++ c :: B) L I) (st : StOk g (A ++ c :: B)) (hi : c.is a i) (hf : FK (fun y : Kn => y.is a i) L v) : v = (A.length : Nat) ∧ L = A.map knOf ++ knOf c :: B.map knOf := by
  have hl := h.l
  rw [List.map_append, List.map_cons] at hl
  have hnA : ∀ z ∈ A.map knOf, ¬ z.is a i := fun z hz e => by
    obtain ⟨d, hd, rfl⟩ := List.mem_map.1 hz
    exact (no_in st hi).1 d hd e
  rcases hf with ⟨_, hno⟩ | ⟨L1, L2, y, e1, e2, e3, e4⟩
  · exact absurd (show (knOf c).is a i from hi) (hno _ (by rw [hl]; simp))
  · obtain ⟨q1, _, _⟩ := first_unique (q := fun y : Kn => y.is a i) (hl.symm.trans e1) hi e3 hnA e4
    exact ⟨by rw [e2, ← q1]; simp, hl⟩
theorem rel_stranger {C : List Cl} {L : List Kn} {I : List Sn} {a i v : Int} (h : REL C L I) (hn : ∀ c ∈ C, ¬ c.is a i) (hf : FK (fun y : Kn => y.is a i) L v) : v = -1 := by
  rcases hf with ⟨e, _⟩ | ⟨L1, L2, y, e1, e2, e3, e4⟩
  · exact e
  · have : y ∈ C.map knOf := by rw [← h.l, e1]; simp
    obtain ⟨d, hd, rfl⟩ := List.mem_map.1 this
    exact absurd e3 (hn d hd)
theorem rel_raise {g : Cf} {A B : List Cl} {c : Cl} {L : List Kn} {I : List Sn} {water : Int} (h : REL (A ++ c :: B) L I) (st : StOk g (A ++ c :: B)) (hw : ¬ water ≤ c.water) :
    REL (A ++ raiseC c water :: B) (A.map knOf ++ { knOf c with water := water } :: B.map knOf) (I.filter (stay (knOf c) water)) := by
  have hr : raiseC c water = { c with water := water, ents := c.ents.filter fun e => decide (water ≤ e.seq) } := if_neg hw
  refine ⟨?_, fun d hd => ?_, fun y hy => ?_⟩
  · rw [hr]; simp [knOf]
  · rcases mem_mid.1 hd with rfl | hd2
    · rw [hr]
      simp only
      have h1 := h.i c (by simp)
      have e1 : (I.filter (stay (knOf c) water)).filter (whoB c.a c.i) = (I.filter (whoB c.a c.i)).filter fun y => decide (water ≤ y.seq) := by
        rw [List.filter_filter, List.filter_filter]
        refine List.filter_congr fun y _ => ?_
        unfold stay whoB knOf
        cases (y.a == c.a && y.i == c.i) <;> simp
      rw [e1, h1, List.filter_map]
      rfl
    · have hne : ¬ (d.a = c.a ∧ d.i = c.i) := fun e => by
        have hn := no_in st (c := c) (a := c.a) (i := c.i) ⟨rfl, rfl⟩
        rcases List.mem_append.1 hd2 with q | q
        · exact hn.1 d q e
        · exact hn.2 d q e
      rw [← h.i d (mem_mid.2 (.inr hd2)), List.filter_filter]
      refine List.filter_congr fun y _ => ?_
      cases hwb : whoB d.a d.i y
      · simp
      · have := whoB_is.1 hwb
        have : stay (knOf c) water y = true := by
          unfold stay knOf
          have : (y.a == c.a && y.i == c.i) = false := by
            rw [Bool.eq_false_iff]
            intro q
            have := whoB_is.1 hwb
            simp at q
            exact hne ⟨this.1.symm.trans q.1, this.2.symm.trans q.2⟩
          rw [this]; rfl
        simp [this]
  · obtain ⟨d, hd, hdi⟩ := h.w y (List.mem_filter.1 hy).1
    have hs := raise_same c water
    rcases mem_mid.1 hd with rfl | hd2
    · exact ⟨_, mem_mid.2 (.inl rfl), hs.1.trans hdi.1, hs.2.1.trans hdi.2⟩
    · exact ⟨d, mem_mid.2 (.inr hd2), hdi⟩
/-- which item the document finds -/
theorem rel_item {g : Cf} {C : List Cl} {c : Cl} {L : List Kn} {I : List Sn} {a i seq v : Int} (h : REL C L I) (st : StOk g C) (hc : c ∈ C) (hi : c.is a i) (hf : FK (fun y : Sn => y.is a i seq) I v) :
    (enAt c.ents seq = none ∧ v = -1) ∨ ∃ e L1 L2, enAt c.ents seq = some e ∧ I = L1 ++ snOf c e :: L2 ∧ v = (L1.length : Nat) := by
  have h1 := h.i c hc
  rcases hf with ⟨e, hno⟩ | ⟨L1, L2, y, e1, e2, e3, e4⟩
  · refine .inl ⟨?_, e⟩
    cases he : enAt c.ents seq with
    | none => rfl
    | some x =>
      obtain ⟨q1, q2⟩ := enAt_some he
      have : snOf c x ∈ I.filter (whoB c.a c.i) := by rw [h1]; exact List.mem_map.2 ⟨x, q1, rfl⟩
      exact absurd ⟨hi.1, hi.2, q2⟩ (hno _ (List.mem_filter.1 this).1)
  · right
    have hy : y ∈ I.filter (whoB c.a c.i) := List.mem_filter.2 ⟨by rw [e1]; simp, whoB_is.2 ⟨e3.1.trans hi.1.symm, e3.2.1.trans hi.2.symm⟩⟩
    rw [h1] at hy
    obtain ⟨x, hx, rfl⟩ := List.mem_map.1 hy
    have hs : x.seq = seq := e3.2.2
    exact ⟨x, L1, L2, by rw [← hs]; exact enAt_is (st.cl c hc).nd hx, e1, e2⟩
theorem rel_of {C : List Cl} {c : Cl} {L : List Kn} {I : List Sn} {a i : Int} (h : REL C L I) (hc : c ∈ C) (hi : c.is a i) : ofP I a i = c.ents.length := by
  have h1 := h.i c hc
  rw [hi.1, hi.2] at h1
  unfold ofP
  rw [show (I.filter fun y => y.a == a && y.i == i) = I.filter (whoB a i) from rfl, h1]
  simp
theorem rel_of0 {C : List Cl} {L : List Kn} {I : List Sn} {a i : Int} (h : REL C L I) (hn : ∀ c ∈ C, ¬ c.is a i) : ofP I a i = 0 := by
  unfold ofP
  rw [show (I.filter fun y => y.a == a && y.i == i) = [] from List.filter_eq_nil_iff.2 fun y hy e => by
    obtain ⟨c, hc, q⟩ := h.w y hy
    simp at e
    exact hn c hc ⟨q.1.trans e.1, q.2.trans e.2⟩]
  rfl
theorem bytI_perm {rs : Nat} {l l2 : List Sn} (h : l.Perm l2) : bytI rs l = bytI rs l2 := by
  unfold bytI
  induction h with
  | nil => rfl
  | cons x _ ih => simp only [List.map_cons, List.sum_cons, ih]
  | swap x y l => simp only [List.map_cons, List.sum_cons]; omega
  | trans _ _ i1 i2 => exact i1.trans i2
theorem bytI_split (rs : Nat) (p : Sn → Bool) : ∀ I : List Sn, bytI rs I = bytI rs (I.filter p) + bytI rs (I.filter fun y => !p y)
  | [] => rfl
  | y :: I => by
    have ih := bytI_split rs p I
    cases hp : p y
    · rw [List.filter_cons_of_neg (by simp [hp]), List.filter_cons_of_pos (by simp [hp])]
      simp only [bytI, List.map_cons, List.sum_cons] at ih ⊢
      omega
    · rw [List.filter_cons_of_pos hp, List.filter_cons_of_neg (by simp [hp])]
      simp only [bytI, List.map_cons, List.sum_cons] at ih ⊢
      omega
theorem byt_snOf (rs : Nat) (c : Cl) (l : List En) : bytI rs (l.map (snOf c)) = byt rs l := by
  unfold bytI byt
  rw [List.map_map]
  rfl
theorem rel_bytes (rs : Nat) : ∀ (C : List Cl) (I : List Sn), (C.map fun c => (c.a, c.i)).Nodup → (∀ c ∈ C, I.filter (whoB c.a c.i) = c.ents.map (snOf c)) → (∀ y ∈ I, ∃ c ∈ C, c.is y.a y.i) → bytI rs I = tot rs C
  | [], I, _, _, hw => by
    cases I with
    | nil => rfl
    | cons y I => obtain ⟨c, hc, _⟩ := hw y (by simp); simp at hc
  | c :: C, I, hn, hi, hw => by
    obtain ⟨h1, h2⟩ := List.nodup_cons.1 hn
    have hne : ∀ d ∈ C, ¬ (d.a = c.a ∧ d.i = c.i) := fun d hd e => h1 (List.mem_map.2 ⟨d, hd, by rw [e.1, e.2]⟩)
    have ih := rel_bytes rs C (I.filter fun y => !whoB c.a c.i y) h2 (fun d hd => by
      rw [List.filter_filter, ← hi d (by simp [hd])]
      refine List.filter_congr fun y _ => ?_
      cases hb : whoB d.a d.i y
      · simp
      · have e1 := whoB_is.1 hb
        have : whoB c.a c.i y = false := by
          rw [Bool.eq_false_iff]
          intro q
          have e2 := whoB_is.1 q
          exact hne d hd ⟨e1.1.symm.trans e2.1, e1.2.symm.trans e2.2⟩
        simp [this]) (fun y hy => by
      obtain ⟨m1, m2⟩ := List.mem_filter.1 hy
      obtain ⟨d, hd, q⟩ := hw y m1
      rcases List.mem_cons.1 hd with rfl | hd
      · simp [whoB, q.1, q.2] at m2
      · exact ⟨d, hd, q⟩)
    rw [bytI_split rs (whoB c.a c.i) I, hi c (by simp), byt_snOf, ih]
    simp [tot]
theorem rel_sizes {g : Cf} {C : List Cl} {L : List Kn} {I : List Sn} (h : REL C L I) (st : StOk g C) (hg : CfOk g) : (∀ y ∈ I, szS g.rs y ≤ 1100) := fun y hy => by
  obtain ⟨c, hc, q⟩ := h.w y hy
  have : y ∈ I.filter (whoB c.a c.i) := List.mem_filter.2 ⟨hy, whoB_is.2 ⟨q.1.symm, q.2.symm⟩⟩
  rw [h.i c hc] at this
  obtain ⟨e, he, rfl⟩ := List.mem_map.1 this
  have h1 := sz_le ((st.cl c hc).en e he)
  have h2 := hg.r
  unfold szS snOf
  unfold sz at h1
  simp only
  omega
theorem rel_len (C : List Cl) (I : List Sn) (hn : (C.map fun c => (c.a, c.i)).Nodup) (hi : ∀ c ∈ C, I.filter (whoB c.a c.i) = c.ents.map (snOf c)) (hw : ∀ y ∈ I, ∃ c ∈ C, c.is y.a y.i) : I.length = sumC (fun c => c.ents.length) C := by
  induction C generalizing I with
  | nil =>
    cases I with
    | nil => rfl
    | cons y I => obtain ⟨c, hc, _⟩ := hw y (by simp); simp at hc
  | cons c C ih =>
    obtain ⟨h1, h2⟩ := List.nodup_cons.1 hn
    have hne : ∀ d ∈ C, ¬ (d.a = c.a ∧ d.i = c.i) := fun d hd e => h1 (List.mem_map.2 ⟨d, hd, by rw [e.1, e.2]⟩)
    have ih2 := ih (I.filter fun y => !whoB c.a c.i y) h2 (fun d hd => by
      rw [List.filter_filter, ← hi d (by simp [hd])]
      refine List.filter_congr fun y _ => ?_
      cases hb : whoB d.a d.i y
      · simp
      · have e1 := whoB_is.1 hb
        have : whoB c.a c.i y = false := by
          rw [Bool.eq_false_iff]
          intro q
          have e2 := whoB_is.1 q
          exact hne d hd ⟨e1.1.symm.trans e2.1, e1.2.symm.trans e2.2⟩
        simp [this]) (fun y hy => by
      obtain ⟨m1, m2⟩ := List.mem_filter.1 hy
      obtain ⟨d, hd, q⟩ := hw y m1
      rcases List.mem_cons.1 hd with rfl | hd
      · simp [whoB, q.1, q.2] at m2
      · exact ⟨d, hd, q⟩)
    have hsp : I.length = (I.filter (whoB c.a c.i)).length + (I.filter fun y => !whoB c.a c.i y).length := by
      clear ih ih2 hi hw hn hne h1 h2
      induction I with
      | nil => rfl
      | cons y I ih3 =>
        cases hp : whoB c.a c.i y <;> simp [hp] <;> omega
    rw [hsp, hi c (by simp), ih2, sumC_cons]
    simp
end Go.Proofs.Ytnpffhgmakbdnaa
