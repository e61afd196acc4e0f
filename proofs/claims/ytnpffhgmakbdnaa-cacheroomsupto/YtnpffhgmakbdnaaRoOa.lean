/- CacheOnce, plainly: the book. -/
import Derived.Test.YtnpffhgmakbdnaaRoNc
namespace Go.Proofs.Ytnpffhgmakbdnaa
open Go.RowKit
structure Sn where
  a : Int
  i : Int
  seq : Int
  dn : Bool
  rep : ByteArray
def Sn.is (x : Sn) (a i seq : Int) : Prop := x.a = a ∧ x.i = i ∧ x.seq = seq
structure BK (C : List Cl) (l : List Sn) : Prop where
  nd : (l.map fun x => (x.a, x.i, x.seq)).Nodup
  fw : ∀ x ∈ l, ∃ c ∈ C, c.is x.a x.i ∧ (x.seq < c.water ∨ ∃ e ∈ c.ents, e.seq = x.seq ∧ e.ans = x.dn ∧ e.rep = x.rep)
  bw : ∀ c ∈ C, ∀ e ∈ c.ents, ∃ x ∈ l, x.is c.a c.i e.seq
theorem mem_mid {α : Type} {A B : List α} {c d : α} : d ∈ A ++ c :: B ↔ d = c ∨ d ∈ A ++ B := by
  simp only [List.mem_append, List.mem_cons]
  constructor
  · rintro (h | h | h)
    · exact .inr (.inl h)
    · exact .inl h
    · exact .inr (.inr h)
  · rintro (h | h | h)
    · exact .inr (.inl h)
    · exact .inl h
    · exact .inr (.inr h)
theorem raise_water (c : Cl) (water : Int) : c.water ≤ (raiseC c water).water ∧ water ≤ (raiseC c water).water := by
  unfold raiseC
  split
  · exact ⟨Int.le_refl _, by assumption⟩
  · exact ⟨by simp only; omega, Int.le_refl _⟩
theorem raise_sub {c : Cl} {water : Int} {e : En} (h : e ∈ (raiseC c water).ents) : e ∈ c.ents := by
  unfold raiseC at h
  split at h
  · exact h
  · exact (List.mem_filter.1 h).1
theorem raise_keep {c : Cl} {water : Int} {e : En} (h : e ∈ c.ents) (hw : (raiseC c water).water ≤ e.seq) : e ∈ (raiseC c water).ents := by
  unfold raiseC at hw ⊢
  split at hw
  · rename_i q; rw [if_pos q]; exact h
  · rename_i q; rw [if_neg q]; exact List.mem_filter.2 ⟨h, by simpa using hw⟩
theorem is_raise {c : Cl} {water a i : Int} (h : c.is a i) : (raiseC c water).is a i := by
  have := raise_same c water
  exact ⟨this.1.trans h.1, this.2.1.trans h.2⟩
theorem st_raise {g : Cf} {A B : List Cl} {c : Cl} {water : Int} (h : StOk g (A ++ c :: B)) (hw : 1 ≤ water ∧ water ≤ 4294967295) : StOk g (A ++ raiseC c water :: B) := by
  have hs := raise_same c water
  refine ⟨fun d hd => ?_, ?_, ?_, ?_⟩
  · rcases mem_mid.1 hd with rfl | q
    · exact raise_ok (h.cl c (by simp)) hw
    · exact h.cl d (mem_mid.2 (.inr q))
  · have := h.who
    simpa [hs.1, hs.2.1] using this
  · have := h.len
    simpa using this
  · have h3 := h.tot
    have h4 := raise_byt g.rs c water
    rw [tot_mid] at h3 ⊢
    omega
theorem bk_raise {A B : List Cl} {c : Cl} {l : List Sn} (h : BK (A ++ c :: B) l) (water : Int) : BK (A ++ raiseC c water :: B) l := by
  refine ⟨h.nd, fun x hx => ?_, fun d hd e he => ?_⟩
  · obtain ⟨d, hd, hi, q⟩ := h.fw x hx
    rcases mem_mid.1 hd with rfl | q2
    · refine ⟨raiseC d water, mem_mid.2 (.inl rfl), is_raise hi, ?_⟩
      have hw := raise_water d water
      rcases q with q | ⟨e, q1, q2, q3⟩
      · exact .inl (by omega)
      · by_cases q4 : (raiseC d water).water ≤ e.seq
        · exact .inr ⟨e, raise_keep q1 q4, q2, q3⟩
        · exact .inl (by omega)
    · exact ⟨d, mem_mid.2 (.inr q2), hi, q⟩
  · rcases mem_mid.1 hd with rfl | q
    · have hs := raise_same c water
      obtain ⟨x, q1, q2⟩ := h.bw c (mem_mid.2 (.inl rfl)) e (raise_sub he)
      exact ⟨x, q1, by rw [hs.1, hs.2.1]; exact q2⟩
    · exact h.bw d (mem_mid.2 (.inr q)) e he
theorem bk_no {g : Cf} {C : List Cl} {d : Cl} {l : List Sn} {a i seq : Int} (h : BK C l) (st : StOk g C) (hd : d ∈ C) (hi : d.is a i) (hs : ¬ seq < d.water) (hn : enAt d.ents seq = none) : ∀ x ∈ l, ¬ x.is a i seq := by
  rintro x hx ⟨rfl, rfl, rfl⟩
  obtain ⟨c, hc, q1, q2⟩ := h.fw x hx
  obtain rfl := same_who st hc hd q1 hi
  rcases q2 with q2 | ⟨e, q2, q3, _⟩
  · exact hs q2
  · exact enAt_none hn e q2 q3
theorem bk_stranger {C : List Cl} {l : List Sn} {a i seq : Int} (h : BK C l) (hn : ∀ c ∈ C, ¬ c.is a i) : ∀ x ∈ l, ¬ x.is a i seq := by
  rintro x hx ⟨rfl, rfl, rfl⟩
  obtain ⟨c, hc, q1, _⟩ := h.fw x hx
  exact hn c hc q1
theorem nd_new {l : List Sn} {a i seq : Int} (h : (l.map fun x => (x.a, x.i, x.seq)).Nodup) (hn : ∀ x ∈ l, ¬ x.is a i seq) (dn : Bool) (rep : ByteArray) : ((l ++ [(⟨a, i, seq, dn, rep⟩ : Sn)]).map fun x : Sn => (x.a, x.i, x.seq)).Nodup := by
  rw [List.map_append]
  refine List.nodup_append.2 ⟨h, by simp, fun y hy z hz e => ?_⟩
  obtain ⟨x, hx, rfl⟩ := List.mem_map.1 hy
  simp at hz
  rw [hz] at e
  simp at e
  exact hn x hx e
theorem bk_new {A B : List Cl} {d : Cl} {l : List Sn} {a i seq : Int} (h : BK (A ++ d :: B) l) (hi : d.is a i) (hn : ∀ x ∈ l, ¬ x.is a i seq) :
    BK (A ++ { d with ents := d.ents ++ [newE seq] } :: B) (l ++ [⟨a, i, seq, false, ⟨#[]⟩⟩]) := by
  refine ⟨nd_new h.nd hn _ _, fun x hx => ?_, fun c hc e he => ?_⟩
  · rcases List.mem_append.1 hx with q | q
    · obtain ⟨c, hc, h1, h2⟩ := h.fw x q
      rcases mem_mid.1 hc with rfl | q2
      · refine ⟨_, mem_mid.2 (.inl rfl), h1, ?_⟩
        rcases h2 with h2 | ⟨e, h2, h3⟩
        · exact .inl h2
        · exact .inr ⟨e, by simp [h2], h3⟩
      · exact ⟨c, mem_mid.2 (.inr q2), h1, h2⟩
    · simp at q
      subst q
      exact ⟨_, mem_mid.2 (.inl rfl), hi, .inr ⟨newE seq, by simp, rfl, rfl, rfl⟩⟩
  · rcases mem_mid.1 hc with rfl | q
    · rcases List.mem_append.1 he with q2 | q2
      · obtain ⟨x, q3, q4⟩ := h.bw d (mem_mid.2 (.inl rfl)) e q2
        exact ⟨x, by simp [q3], q4⟩
      · simp at q2
        subst q2
        exact ⟨_, List.mem_append.2 (.inr (List.mem_singleton.2 rfl)), hi.1.symm, hi.2.symm, rfl⟩
    · obtain ⟨x, q3, q4⟩ := h.bw c (mem_mid.2 (.inr q)) e he
      exact ⟨x, by simp [q3], q4⟩
theorem bk_newU {C : List Cl} {l : List Sn} {a i seq water : Int} {b m : Nat} (h : BK C l) (hn : ∀ c ∈ C, ¬ c.is a i) :
    BK (C ++ [⟨a, i, water, [newE seq], b, m⟩]) (l ++ [⟨a, i, seq, false, ⟨#[]⟩⟩]) := by
  refine ⟨nd_new h.nd (bk_stranger h hn) _ _, fun x hx => ?_, fun c hc e he => ?_⟩
  · rcases List.mem_append.1 hx with q | q
    · obtain ⟨c, hc, h1, h2⟩ := h.fw x q
      exact ⟨c, by simp [hc], h1, h2⟩
    · simp at q
      subst q
      exact ⟨_, List.mem_append.2 (.inr (List.mem_singleton.2 rfl)), ⟨rfl, rfl⟩, .inr ⟨newE seq, by simp, rfl, rfl, rfl⟩⟩
  · rcases List.mem_append.1 hc with q | q
    · obtain ⟨x, q3, q4⟩ := h.bw c q e he
      exact ⟨x, by simp [q3], q4⟩
    · simp at q
      subst q
      simp at he
      subst he
      exact ⟨_, List.mem_append.2 (.inr (List.mem_singleton.2 rfl)), rfl, rfl, rfl⟩
/-- the one that is meant -/
theorem bk_en {g : Cf} {C : List Cl} {d : Cl} {l : List Sn} {e : En} {a i : Int} (h : BK C l) (st : StOk g C) (hd : d ∈ C) (hi : d.is a i) (he : e ∈ d.ents) :
    (∃ x ∈ l, x.is a i e.seq) ∧ ∀ x ∈ l, x.is a i e.seq → x.dn = e.ans ∧ x.rep = e.rep := by
  refine ⟨?_, ?_⟩
  · obtain ⟨x, q1, q2⟩ := h.bw d hd e he
    exact ⟨x, q1, q2.1.trans hi.1, q2.2.1.trans hi.2, q2.2.2⟩
  · rintro x hx ⟨q1, q2, q3⟩
    obtain ⟨c, hc, h1, h2⟩ := h.fw x hx
    obtain rfl := same_who st hc hd h1 (by rw [q1, q2]; exact hi)
    rcases h2 with h2 | ⟨f, h2, h3, h4, h5⟩
    · have := ((st.cl c hc).en e he).lo
      omega
    · obtain rfl := nd_inj (st.cl c hc).nd h2 he (h3.trans q3)
      exact ⟨h4.symm, h5.symm⟩
theorem sn_same {C : List Cl} {l : List Sn} (h : BK C l) {x y : Sn} (hx : x ∈ l) (hy : y ∈ l) {a i seq : Int} (h1 : x.is a i seq) (h2 : y.is a i seq) : x = y :=
  nd_inj h.nd hx hy (by rw [h1.1, h1.2.1, h1.2.2, h2.1, h2.2.1, h2.2.2])
theorem bk_set {A B : List Cl} {d : Cl} {E1 E2 : List En} {e : En} {l : List Sn} {a i : Int} {rep : ByteArray} {L1 L2 : List Sn} {x : Sn} {g : Cf} (h : BK (A ++ d :: B) l) (st : StOk g (A ++ d :: B)) (hi : d.is a i) (he : d.ents = E1 ++ e :: E2) (hl : l = L1 ++ x :: L2) (hx : x.is a i e.seq) :
    BK (A ++ { d with ents := E1 ++ ⟨e.seq, true, rep⟩ :: E2 } :: B) (L1 ++ { x with dn := true, rep := rep } :: L2) := by
  subst hl
  have hnd := h.nd
  have hmem : ∀ f : En, f ∈ E1 ++ E2 → f ∈ d.ents := fun f hf => by rw [he]; exact mem_mid.2 (.inr hf)
  refine ⟨by simpa using hnd, fun y hy => ?_, fun c hc f hf => ?_⟩
  · rcases mem_mid.1 hy with rfl | q
    · exact ⟨_, mem_mid.2 (.inl rfl), by rw [hx.1, hx.2.1]; exact hi, .inr ⟨_, mem_mid.2 (.inl rfl), hx.2.2.symm, rfl, rfl⟩⟩
    · obtain ⟨c, hc, h1, h2⟩ := h.fw y (mem_mid.2 (.inr q))
      rcases mem_mid.1 hc with rfl | q2
      · refine ⟨_, mem_mid.2 (.inl rfl), h1, ?_⟩
        rcases h2 with h2 | ⟨f, h2, h3, h4⟩
        · exact .inl h2
        · refine .inr ⟨f, ?_, h3, h4⟩
          rw [he] at h2
          rcases mem_mid.1 h2 with rfl | h5
          · exfalso
            have hy2 : y.is a i f.seq := ⟨h1.1.symm.trans hi.1, h1.2.symm.trans hi.2, h3.symm⟩
            have hn2 := List.perm_middle.nodup_iff.1 (by simpa using hnd : (L1.map (fun x => (x.a, x.i, x.seq)) ++ (x.a, x.i, x.seq) :: L2.map fun x => (x.a, x.i, x.seq)).Nodup)
            refine (List.nodup_cons.1 hn2).1 ?_
            rw [← List.map_append]
            exact List.mem_map.2 ⟨y, q, by rw [hy2.1, hy2.2.1, hy2.2.2, hx.1, hx.2.1, hx.2.2]⟩
          · exact mem_mid.2 (.inr h5)
      · exact ⟨c, mem_mid.2 (.inr q2), h1, h2⟩
  · have fin : ∀ y, y ∈ L1 ++ x :: L2 → ∀ p q r, y.is p q r → ∃ z ∈ L1 ++ { x with dn := true, rep := rep } :: L2, z.is p q r := fun y hy p q r hyi => by
      rcases mem_mid.1 hy with rfl | h2
      · exact ⟨_, mem_mid.2 (.inl rfl), hyi⟩
      · exact ⟨y, mem_mid.2 (.inr h2), hyi⟩
    rcases mem_mid.1 hc with rfl | q
    · rcases mem_mid.1 hf with rfl | q2
      · exact ⟨_, mem_mid.2 (.inl rfl), hx.1.trans hi.1.symm, hx.2.1.trans hi.2.symm, hx.2.2⟩
      · obtain ⟨y, q3, q4⟩ := h.bw d (mem_mid.2 (.inl rfl)) f (hmem f q2)
        exact fin y q3 _ _ _ q4
    · obtain ⟨y, q3, q4⟩ := h.bw c (mem_mid.2 (.inr q)) f hf
      exact fin y q3 _ _ _ q4
/-- a client's water, or 0 -/
def watP (C : List Cl) (a i : Int) : Int := match C.find? (fun c => decide (c.a = a) && decide (c.i = i)) with
  | some c => c.water
  | none => 0
theorem wat_is {g : Cf} {C : List Cl} (st : StOk g C) {c : Cl} (hc : c ∈ C) {a i : Int} (hi : c.is a i) : watP C a i = c.water := by
  unfold watP
  cases h : C.find? (fun c => decide (c.a = a) && decide (c.i = i)) with
  | none =>
    have := List.find?_eq_none.1 h c hc
    simp [hi.1, hi.2] at this
  | some d =>
    have h1 := List.find?_some h
    simp at h1
    rw [same_who st (List.mem_of_find?_eq_some h) hc h1 hi]
theorem wat_no {C : List Cl} {a i : Int} (hn : ∀ c ∈ C, ¬ c.is a i) : watP C a i = 0 := by
  unfold watP
  have : C.find? (fun c => decide (c.a = a) && decide (c.i = i)) = none := List.find?_eq_none.2 fun c hc h => hn c hc (show c.a = a ∧ c.i = i by simpa using h)
  rw [this]
theorem water_any {w : World} {p mm : Nat} {g : Cf} {C : List Cl} (h : PC w p g mm C) {a i : Int} (hw : InW a i) :
    Calls Try.prog 13 #[ptr p, whoV a i] w fun r w' => r = .returned (.int .i64 (watP C a i)) ∧ Below w.heap.size w w' := by
  by_cases hn : ∃ c ∈ C, c.is a i
  · obtain ⟨c, hc, hi⟩ := hn
    rw [wat_is h.st hc hi]
    exact water_yes h hc hi
  · have hn2 : ∀ c ∈ C, ¬ c.is a i := fun c hc e => hn ⟨c, hc, e⟩
    rw [wat_no hn2]
    exact water_no h hw hn2
/-- what an asking tells, and what it makes of the book -/
structure AskB (g : Cf) (C : List Cl) (l : List Sn) (a i seq water v : Int) (s : ByteArray) (C' : List Cl) : Prop where
  up : watP C a i ≤ watP C' a i
  len : C.length ≤ C'.length
  no : v ≠ 3 → s = ⟨#[]⟩
  k1 : v = 1 → (∀ x ∈ l, ¬ x.is a i seq) ∧ watP C' a i ≤ seq ∧ water ≤ watP C' a i ∧ BK C' (l ++ [⟨a, i, seq, false, ⟨#[]⟩⟩])
  k2 : v ≠ 1 → BK C' l
  k3 : v = 2 ∨ v = 3 → (∃ x ∈ l, x.is a i seq) ∧ watP C' a i ≤ seq ∧ ∀ x ∈ l, x.is a i seq → x.dn = decide (v = 3) ∧ x.rep = s
  k5 : v = 5 → ∀ x ∈ l, ¬ x.is a i seq
  k4 : v = 4 → ¬ (0 < watP C' a i ∧ watP C' a i ≤ seq ∧ 1 ≤ seq ∧ seq < 4294967296 ∧ 1 ≤ water ∧ water < 4294967296)
  all : v = 1 ∨ v = 2 ∨ v = 3 ∨ v = 4 ∨ v = 5
theorem ask_book {g : Cf} {C : List Cl} {l : List Sn} {a i seq water v : Int} {s : ByteArray} {C' : List Cl} (h : AskR g C a i seq water v s C') (bk : BK C l) (st : StOk g C) (st' : StOk g C') : AskB g C l a i seq water v s C' := by
  have watlo : ∀ {D : List Cl}, StOk g D → ∀ {c : Cl}, c ∈ D → 0 < c.water := fun sd c hc => by have := (sd.cl c hc).w; omega
  have up0 : ∀ (A B : List Cl) (c c' : Cl), C = A ++ c :: B → C' = A ++ c' :: B → c.is a i → c'.is a i → c.water ≤ c'.water → watP C a i ≤ watP C' a i ∧ C.length ≤ C'.length ∧ watP C' a i = c'.water := by
    rintro A B c c' rfl rfl h1 h2 h3
    rw [wat_is st (by simp) h1, wat_is st' (c := c') (by simp) h2]
    exact ⟨h3, by simp, rfl⟩
  cases h with
  | bad q =>
    refine ⟨Int.le_refl _, Nat.le_refl _, fun _ => rfl, fun e => absurd e (by decide), fun _ => bk, fun e => by rcases e with e | e <;> exact absurd e (by decide), fun e => absurd e (by decide), fun _ q2 => q ?_, by decide⟩
    by_cases hn : ∃ c ∈ C, c.is a i
    · obtain ⟨c, hc, h1⟩ := hn
      have h2 := (st.cl c hc).a; have h3 := (st.cl c hc).i
      have e1 := h1.1; have e2 := h1.2
      unfold inB
      simp
      omega
    · rw [wat_no (fun c hc e => hn ⟨c, hc, e⟩)] at q2
      omega
  | old A B c q hi h3 h4 h5 =>
    subst q
    have hw := raise_water c water
    obtain ⟨u1, u2, u3⟩ := up0 A B c _ rfl rfl hi (is_raise hi) hw.1
    exact ⟨u1, u2, fun _ => rfl, fun e => absurd e (by decide), fun _ => bk_raise bk water, fun e => by rcases e with e | e <;> exact absurd e (by decide), fun e => absurd e (by decide), fun _ q2 => by rw [u3] at q2; omega, by decide⟩
  | there A B c e q hi h3 h4 h5 h6 =>
    subst q h6
    have hw := raise_water c water
    obtain ⟨u1, u2, u3⟩ := up0 A B c _ rfl rfl hi (is_raise hi) hw.1
    have hm : raiseC c water ∈ A ++ raiseC c water :: B := by simp
    have hlo := ((st'.cl _ hm).en e h5).lo
    have hno := ((st'.cl _ hm).en e h5).non
    obtain ⟨k1, k2⟩ := bk_en (bk_raise bk water) st' hm (is_raise hi) h5
    cases ha : e.ans
    · exact ⟨u1, u2, fun _ => hno ha, fun e => absurd e (by decide), fun _ => bk_raise bk water, fun _ => ⟨k1, by rw [u3]; exact hlo, fun x hx hxi => ⟨(k2 x hx hxi).1.trans ha, (k2 x hx hxi).2⟩⟩, fun e => absurd e (by decide), fun e => absurd e (by decide), by decide⟩
    · exact ⟨u1, u2, fun e => absurd rfl e, fun e => absurd e (by decide), fun _ => bk_raise bk water, fun _ => ⟨k1, by rw [u3]; exact hlo, fun x hx hxi => ⟨(k2 x hx hxi).1.trans ha, (k2 x hx hxi).2⟩⟩, fun e => absurd e (by decide), fun e => absurd e (by decide), by decide⟩
  | full A B c q hi h3 h4 h5 h6 h7 =>
    subst q
    have hw := raise_water c water
    obtain ⟨u1, u2, u3⟩ := up0 A B c _ rfl rfl hi (is_raise hi) hw.1
    exact ⟨u1, u2, fun _ => rfl, fun e => absurd e (by decide), fun _ => bk_raise bk water, fun e => by rcases e with e | e <;> exact absurd e (by decide), fun _ => bk_no (bk_raise bk water) st' (by simp) (is_raise hi) h5 h6, fun e => absurd e (by decide), by decide⟩
  | new A B c q hi h3 h4 h5 h6 h7 h8 =>
    subst q
    have hw := raise_water c water
    obtain ⟨u1, u2, u3⟩ := up0 A B c { raiseC c water with ents := (raiseC c water).ents ++ [newE seq] } rfl rfl hi (is_raise hi) hw.1
    have st1 := st_raise st (inB_is h4) (c := c)
    have hno := bk_no (bk_raise bk water) st1 (by simp) (is_raise hi) h5 h6
    exact ⟨u1, u2, fun _ => rfl, fun _ => ⟨hno, by rw [u3]; simpa using h5, by rw [u3]; exact hw.2, bk_new (bk_raise bk water) (is_raise hi) hno⟩, fun e => absurd rfl e, fun e => by rcases e with e | e <;> exact absurd e (by decide), fun e => absurd e (by decide), fun e => absurd e (by decide), by decide⟩
  | oldU hn =>
    exact ⟨Int.le_refl _, Nat.le_refl _, fun _ => rfl, fun e => absurd e (by decide), fun _ => bk, fun e => by rcases e with e | e <;> exact absurd e (by decide), fun e => absurd e (by decide), fun _ q2 => by rw [wat_no hn] at q2; omega, by decide⟩
  | fullU hn =>
    exact ⟨Int.le_refl _, Nat.le_refl _, fun _ => rfl, fun e => absurd e (by decide), fun _ => bk, fun e => by rcases e with e | e <;> exact absurd e (by decide), fun _ => bk_stranger bk hn, fun e => absurd e (by decide), by decide⟩
  | newU b m hn h1 h2 h3 h4 h5 h6 h7 =>
    have u3 := wat_is st' (c := ⟨a, i, water, [newE seq], b, m⟩) (by simp) (a := a) (i := i) ⟨rfl, rfl⟩
    have hw := (inB_is h4).1
    exact ⟨by rw [u3, wat_no hn]; simp only; omega, by simp, fun _ => rfl, fun _ => ⟨bk_stranger bk hn, by rw [u3]; simpa using h5, by rw [u3]; exact Int.le_refl _, bk_newU bk hn⟩, fun e => absurd rfl e, fun e => by rcases e with e | e <;> exact absurd e (by decide), fun e => absurd e (by decide), fun e => absurd e (by decide), by decide⟩
theorem done_book {g : Cf} {C : List Cl} {l : List Sn} {a i seq v : Int} {rep : ByteArray} {C' : List Cl} (h : DoneR g C a i seq rep v C') (bk : BK C l) (st : StOk g C) (st' : StOk g C') :
    (v ≠ 0 → C' = C) ∧ (v = 0 → rep.size ≤ g.rs ∧ watP C' a i ≤ seq ∧ (∃ x ∈ l, x.is a i seq) ∧ ∀ L1 L2 x, l = L1 ++ x :: L2 → x.is a i seq → x.dn = false ∧ BK C' (L1 ++ { x with dn := true, rep := rep } :: L2)) ∧ C.length ≤ C'.length := by
  cases h with
  | none => exact ⟨fun _ => rfl, fun e => absurd e (by decide), Nat.le_refl _⟩
  | long => exact ⟨fun _ => rfl, fun e => absurd e (by decide), Nat.le_refl _⟩
  | ok A B c E1 E2 e q hi h3 h4 h5 h6 =>
    subst q h4
    have hm : c ∈ A ++ c :: B := by simp
    have he : e ∈ c.ents := by rw [h3]; simp
    have hlo := ((st.cl _ hm).en e he).lo
    obtain ⟨k1, k2⟩ := bk_en bk st hm hi he
    refine ⟨fun e => absurd rfl e, fun _ => ⟨h6, ?_, k1, fun L1 L2 x hl hx => ⟨?_, ?_⟩⟩, by simp⟩
    · rw [wat_is st' (c := { c with ents := E1 ++ ⟨e.seq, true, rep⟩ :: E2 }) (by simp) (a := a) (i := i) hi]
      exact hlo
    · rw [(k2 x (by rw [hl]; simp) hx).1, h5]
    · exact bk_set bk st hi h3 hl hx
end Go.Proofs.Ytnpffhgmakbdnaa
