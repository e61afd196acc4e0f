/- The plain parser looks one token ahead: what it says of a source hangs on the tokens up to the place that it tells. Each function of the plain parser looks one token ahead. Where a source is refused it is so whatever tokens stand behind, and not sooner: plainly. Rows of tokens; are two the same? Words and names: the document's, and the program's. The program's printer: what is given up, what is laid down. The program's printer: tokens laid down. -/
import Derived.Test.YteokdknaadckbaaGreatDoorPart14
import Derived.Laws.StructEq
import Derived.Lib.AppendStr
namespace Go.Proofs.YteokdknaadckbaaGreatDoor

def ats (l : List Tok) : List Nat := l.map (fun t => t.at_)
def Suf (a b : List Tok) : Prop := ∃ c, b = c ++ a
def endT (n : Nat) : Tok := ⟨5, [], 0, n⟩
/-- it ends in the end -/
def EndL (l : List Tok) : Prop := ∃ c n, l = c ++ [endT n]
def code (e : Int) : Prop := e = 40 ∨ e = 41 ∨ e = 42

theorem EndL.cons {t : Tok} {l : List Tok} (h : EndL l) : EndL (t :: l) := by
  obtain ⟨c, n, rfl⟩ := h
  exact ⟨t :: c, n, rfl⟩
theorem EndL.app {a l : List Tok} (h : EndL l) : EndL (a ++ l) := by
  obtain ⟨c, n, rfl⟩ := h
  exact ⟨a ++ c, n, by simp⟩
theorem EndL.tail {t : Tok} {l : List Tok} (h : EndL (t :: l)) (ht : ¬ (t.kind = 5 ∧ t.text = [])) : EndL l := by
  obtain ⟨c, n, h⟩ := h
  cases c with
  | nil =>
    simp at h
    rw [h.1] at ht
    exact absurd ⟨rfl, rfl⟩ ht
  | cons x c =>
    simp at h
    exact ⟨c, n, h.2⟩
theorem EndL.ne {l : List Tok} (h : EndL l) : l ≠ [] := by
  obtain ⟨c, n, rfl⟩ := h
  simp
theorem Suf.refl (a : List Tok) : Suf a a := ⟨[], rfl⟩
theorem Suf.trans {a b c : List Tok} (h : Suf a b) (k : Suf b c) : Suf a c := by
  obtain ⟨x, rfl⟩ := h
  obtain ⟨y, rfl⟩ := k
  exact ⟨y ++ x, by simp⟩
theorem Suf.cons {a b : List Tok} (t : Tok) (h : Suf a b) : Suf a (t :: b) := by
  obtain ⟨x, rfl⟩ := h
  exact ⟨t :: x, rfl⟩
theorem Suf.ats {a b : List Tok} (h : Suf a b) {n : Nat} (hn : n ∈ ats a) : n ∈ ats b := by
  obtain ⟨x, rfl⟩ := h
  simp [Go.Proofs.YteokdknaadckbaaGreatDoor.ats] at hn ⊢
  exact Or.inr hn
theorem hd_cons (t : Tok) (l : List Tok) (f : Bool) : (⟨t :: l, f⟩ : PS).hd = t := rfl

/-- it told something of what stands in vs -/
def Beyond {α : Type} (r : Ans α) (vs : List Tok) : Prop := (∃ e a, r = .no e a ∧ a ∈ ats vs) ∨ (∃ x ws f, r = .ok x ⟨ws, f⟩ ∧ Suf ws vs ∧ EndL ws)

structure GoodOn {α : Type} (c : Tok → Prop) (F : PS → Ans α) : Prop where
  stay : ∀ t L full, c t → EndL (t :: L) → (∃ e a, F ⟨t :: L, full⟩ = .no e a ∧ a ∈ ats (t :: L) ∧ code e) ∨ (∃ x ws f, F ⟨t :: L, full⟩ = .ok x ⟨ws, f⟩ ∧ Suf ws (t :: L) ∧ EndL ws)
  here : ∀ v vs vs' full, c v → EndL vs → EndL vs' → (∃ e, F ⟨v :: vs, full⟩ = .no e v.at_ ∧ F ⟨v :: vs', full⟩ = .no e v.at_) ∨ (∃ x f, F ⟨v :: vs, full⟩ = .ok x ⟨v :: vs, f⟩ ∧ F ⟨v :: vs', full⟩ = .ok x ⟨v :: vs', f⟩) ∨ (Beyond (F ⟨v :: vs, full⟩) vs ∧ Beyond (F ⟨v :: vs', full⟩) vs')
  same : ∀ u us v vs vs' full, c u → EndL vs → EndL vs' → (∃ e a, a ∈ ats (u :: us ++ [v]) ∧ F ⟨u :: us ++ v :: vs, full⟩ = .no e a ∧ F ⟨u :: us ++ v :: vs', full⟩ = .no e a) ∨ (∃ x us' f, Suf us' (u :: us) ∧ F ⟨u :: us ++ v :: vs, full⟩ = .ok x ⟨us' ++ v :: vs, f⟩ ∧ F ⟨u :: us ++ v :: vs', full⟩ = .ok x ⟨us' ++ v :: vs', f⟩) ∨ (Beyond (F ⟨u :: us ++ v :: vs, full⟩) vs ∧ Beyond (F ⟨u :: us ++ v :: vs', full⟩) vs')
  cut : ∀ u us v vs n full, c u → EndL (v :: vs) → (∃ e a, a ∈ ats (u :: us) ∧ F ⟨u :: us ++ v :: vs, full⟩ = .no e a ∧ F ⟨u :: us ++ [endT n], full⟩ = .no e a) ∨ (∃ x us' f, us' ≠ [] ∧ Suf us' (u :: us) ∧ F ⟨u :: us ++ v :: vs, full⟩ = .ok x ⟨us' ++ v :: vs, f⟩ ∧ F ⟨u :: us ++ [endT n], full⟩ = .ok x ⟨us' ++ [endT n], f⟩) ∨ (F ⟨u :: us ++ [endT n], full⟩ = .no 40 n ∨ ∃ x f, F ⟨u :: us ++ [endT n], full⟩ = .ok x ⟨[endT n], f⟩)
/-- at the end it gives up there, or stays there -/
def Fin {α : Type} (F : PS → Ans α) : Prop := ∀ n full, F ⟨[endT n], full⟩ = .no 40 n ∨ ∃ x f, F ⟨[endT n], full⟩ = .ok x ⟨[endT n], f⟩
structure Good {α : Type} (F : PS → Ans α) : Prop where
  on : GoodOn (fun _ => True) F
  fin : Fin F

theorem EndL.shape {l : List Tok} (h : EndL l) : ∃ t r, l = t :: r := by
  cases l with
  | nil => exact absurd rfl h.ne
  | cons t r => exact ⟨t, r, rfl⟩
theorem Good.stays {α : Type} {F : PS → Ans α} (h : Good F) (L : List Tok) (full : Bool) (hL : EndL L) : (∃ e a, F ⟨L, full⟩ = .no e a ∧ a ∈ ats L ∧ code e) ∨ (∃ x ws f, F ⟨L, full⟩ = .ok x ⟨ws, f⟩ ∧ Suf ws L ∧ EndL ws) := by
  obtain ⟨t, r, rfl⟩ := hL.shape
  exact h.on.stay t r full trivial hL
theorem Good.beyond {α β : Type} {r : Ans α} {G : α → PS → Ans β} {vs : List Tok} (h : Beyond r vs) (hG : ∀ x, Good (G x)) : Beyond (r.bind G) vs := by
  rcases h with ⟨e, a, rfl, ha⟩ | ⟨x, ws, f, rfl, hs, hw⟩
  · exact Or.inl ⟨e, a, rfl, ha⟩
  · rcases (hG x).stays ws f hw with ⟨e, a, h1, h2, _⟩ | ⟨y, ws', f', h1, h2, h3⟩
    · exact Or.inl ⟨e, a, h1, hs.ats h2⟩
    · exact Or.inr ⟨y, ws', f', h1, h2.trans hs, h3⟩
theorem GoodOn.bind {α β : Type} {c : Tok → Prop} {F : PS → Ans α} {G : α → PS → Ans β} (hF : GoodOn c F) (hG : ∀ x, Good (G x)) : GoodOn c (fun s => (F s).bind G) := by
  constructor
  · intro t L full hc hL
    rcases hF.stay t L full hc hL with ⟨e, a, h1, h2, h3⟩ | ⟨x, ws, f, h1, h2, h3⟩
    · exact Or.inl ⟨e, a, by show (F _).bind G = _; rw [h1]; rfl, h2, h3⟩
    · rcases (hG x).stays ws f h3 with ⟨e, a, k1, k2, k3⟩ | ⟨y, ws', f', k1, k2, k3⟩
      · exact Or.inl ⟨e, a, by show (F _).bind G = _; rw [h1]; exact k1, h2.ats k2, k3⟩
      · exact Or.inr ⟨y, ws', f', by show (F _).bind G = _; rw [h1]; exact k1, k2.trans h2, k3⟩
  · intro v vs vs' full hc hv hv'
    rcases hF.here v vs vs' full hc hv hv' with ⟨e, h1, h2⟩ | ⟨x, f, h1, h2⟩ | ⟨h1, h2⟩
    · exact Or.inl ⟨e, by show (F _).bind G = _; rw [h1]; rfl, by show (F _).bind G = _; rw [h2]; rfl⟩
    · rcases (hG x).on.here v vs vs' f trivial hv hv' with ⟨e, k1, k2⟩ | ⟨y, f', k1, k2⟩ | ⟨k1, k2⟩
      · exact Or.inl ⟨e, by show (F _).bind G = _; rw [h1]; exact k1, by show (F _).bind G = _; rw [h2]; exact k2⟩
      · exact Or.inr (Or.inl ⟨y, f', by show (F _).bind G = _; rw [h1]; exact k1, by show (F _).bind G = _; rw [h2]; exact k2⟩)
      · refine Or.inr (Or.inr ⟨?_, ?_⟩)
        · show Beyond ((F _).bind G) vs; rw [h1]; exact k1
        · show Beyond ((F _).bind G) vs'; rw [h2]; exact k2
    · exact Or.inr (Or.inr ⟨Good.beyond h1 hG, Good.beyond h2 hG⟩)
  · intro u us v vs vs' full hc hv hv'
    rcases hF.same u us v vs vs' full hc hv hv' with ⟨e, a, h0, h1, h2⟩ | ⟨x, us', f, h0, h1, h2⟩ | ⟨h1, h2⟩
    · exact Or.inl ⟨e, a, h0, by show (F _).bind G = _; rw [h1]; rfl, by show (F _).bind G = _; rw [h2]; rfl⟩
    · have hav : ∀ n, n ∈ ats (us' ++ [v]) → n ∈ ats (u :: us ++ [v]) := fun n hn => by
        obtain ⟨y, hy⟩ := h0
        rw [hy]
        simp [ats] at hn ⊢
        rcases hn with h | h
        · exact Or.inr (Or.inl h)
        · exact Or.inr (Or.inr h)
      cases us' with
      | nil =>
        rcases (hG x).on.here v vs vs' f trivial hv hv' with ⟨e, k1, k2⟩ | ⟨y, f', k1, k2⟩ | ⟨k1, k2⟩
        · exact Or.inl ⟨e, v.at_, by simp [ats], by show (F _).bind G = _; rw [h1]; exact k1, by show (F _).bind G = _; rw [h2]; exact k2⟩
        · exact Or.inr (Or.inl ⟨y, [], f', h0, by show (F _).bind G = _; rw [h1]; exact k1, by show (F _).bind G = _; rw [h2]; exact k2⟩)
        · refine Or.inr (Or.inr ⟨?_, ?_⟩)
          · show Beyond ((F _).bind G) vs; rw [h1]; exact k1
          · show Beyond ((F _).bind G) vs'; rw [h2]; exact k2
      | cons u' us' =>
        rcases (hG x).on.same u' us' v vs vs' f trivial hv hv' with ⟨e, a, k0, k1, k2⟩ | ⟨y, us'', f', k0, k1, k2⟩ | ⟨k1, k2⟩
        · exact Or.inl ⟨e, a, hav a k0, by show (F _).bind G = _; rw [h1]; exact k1, by show (F _).bind G = _; rw [h2]; exact k2⟩
        · exact Or.inr (Or.inl ⟨y, us'', f', k0.trans h0, by show (F _).bind G = _; rw [h1]; exact k1, by show (F _).bind G = _; rw [h2]; exact k2⟩)
        · refine Or.inr (Or.inr ⟨?_, ?_⟩)
          · show Beyond ((F _).bind G) vs; rw [h1]; exact k1
          · show Beyond ((F _).bind G) vs'; rw [h2]; exact k2
    · exact Or.inr (Or.inr ⟨Good.beyond h1 hG, Good.beyond h2 hG⟩)
  · intro u us v vs n full hc hv
    have hfin : ∀ x f, (G x ⟨[endT n], f⟩ = .no 40 n ∨ ∃ y f', G x ⟨[endT n], f⟩ = .ok y ⟨[endT n], f'⟩) := fun x f => (hG x).fin n f
    rcases hF.cut u us v vs n full hc hv with ⟨e, a, h0, h1, h2⟩ | ⟨x, us', f, h00, h0, h1, h2⟩ | h1 | ⟨x, f, h1⟩
    · exact Or.inl ⟨e, a, h0, by show (F _).bind G = _; rw [h1]; rfl, by show (F _).bind G = _; rw [h2]; rfl⟩
    · cases us' with
      | nil => exact absurd rfl h00
      | cons u' us' =>
        rcases (hG x).on.cut u' us' v vs n f trivial hv with ⟨e, a, k0, k1, k2⟩ | ⟨y, us'', f', k00, k0, k1, k2⟩ | k1 | ⟨y, f', k1⟩
        · exact Or.inl ⟨e, a, h0.ats k0, by show (F _).bind G = _; rw [h1]; exact k1, by show (F _).bind G = _; rw [h2]; exact k2⟩
        · exact Or.inr (Or.inl ⟨y, us'', f', k00, k0.trans h0, by show (F _).bind G = _; rw [h1]; exact k1, by show (F _).bind G = _; rw [h2]; exact k2⟩)
        · exact Or.inr (Or.inr (Or.inl (by show (F _).bind G = _; rw [h2]; exact k1)))
        · exact Or.inr (Or.inr (Or.inr ⟨y, f', by show (F _).bind G = _; rw [h2]; exact k1⟩))
    · exact Or.inr (Or.inr (Or.inl (by show (F _).bind G = _; rw [h1]; rfl)))
    · rcases hfin x f with k1 | ⟨y, f', k1⟩
      · exact Or.inr (Or.inr (Or.inl (by show (F _).bind G = _; rw [h1]; exact k1)))
      · exact Or.inr (Or.inr (Or.inr ⟨y, f', by show (F _).bind G = _; rw [h1]; exact k1⟩))
theorem Fin.bind {α β : Type} {F : PS → Ans α} {G : α → PS → Ans β} (hF : Fin F) (hG : ∀ x, Good (G x)) : Fin (fun s => (F s).bind G) := by
  intro n full
  rcases hF n full with h1 | ⟨x, f, h1⟩
  · exact Or.inl (by show (F _).bind G = _; rw [h1]; rfl)
  · rcases (hG x).fin n f with k1 | ⟨y, f', k1⟩
    · exact Or.inl (by show (F _).bind G = _; rw [h1]; exact k1)
    · exact Or.inr ⟨y, f', by show (F _).bind G = _; rw [h1]; exact k1⟩
theorem Good.bind {α β : Type} {F : PS → Ans α} {G : α → PS → Ans β} (hF : Good F) (hG : ∀ x, Good (G x)) : Good (fun s => (F s).bind G) := ⟨hF.on.bind hG, hF.fin.bind hG⟩
theorem GoodOn.mono {α : Type} {c d : Tok → Prop} {F : PS → Ans α} (h : GoodOn c F) (hd : ∀ t, d t → c t) : GoodOn d F :=
  ⟨fun t L full hc => h.stay t L full (hd t hc), fun v vs vs' full hc => h.here v vs vs' full (hd v hc), fun u us v vs vs' full hc => h.same u us v vs vs' full (hd u hc), fun u us v vs n full hc => h.cut u us v vs n full (hd u hc)⟩
/-- what comes decides -/
theorem GoodOn.head {α : Type} {d : Tok → Prop} {F : Tok → PS → Ans α} (h : ∀ t, d t → GoodOn (fun x => x = t) (F t)) : GoodOn d (fun s => F s.hd s) :=
  ⟨fun t L full hc => (h t hc).stay t L full rfl, fun v vs vs' full hc => (h v hc).here v vs vs' full rfl, fun u us v vs vs' full hc => (h u hc).same u us v vs vs' full rfl, fun u us v vs n full hc => (h u hc).cut u us v vs n full rfl⟩
theorem GoodOn.ite {α : Type} {d : Tok → Prop} {F G : PS → Ans α} (c : Tok → Prop) [∀ t, Decidable (c t)] (hF : GoodOn (fun t => d t ∧ c t) F) (hG : GoodOn (fun t => d t ∧ ¬ c t) G) : GoodOn d (fun s => if c s.hd then F s else G s) := by
  refine GoodOn.head (F := fun t s => if c t then F s else G s) fun t hd => ?_
  by_cases h : c t
  · have e : (fun s => if c t then F s else G s) = F := funext fun s => if_pos h
    show GoodOn _ (fun s => if c t then F s else G s)
    rw [e]
    exact hF.mono (fun x hx => by rw [hx]; exact ⟨hd, h⟩)
  · have e : (fun s => if c t then F s else G s) = G := funext fun s => if_neg h
    show GoodOn _ (fun s => if c t then F s else G s)
    rw [e]
    exact hG.mono (fun x hx => by rw [hx]; exact ⟨hd, h⟩)
theorem good_ite {α : Type} {F G : PS → Ans α} (c : Tok → Prop) [∀ t, Decidable (c t)] (hc : ∀ n, ¬ c (endT n)) (hF : GoodOn c F) (hG : Good G) : Good (fun s => if c s.hd then F s else G s) :=
  ⟨GoodOn.ite c (hF.mono fun t h => h.2) (hG.on.mono fun t _ => trivial), fun n full => by
    show (if c (endT n) then F ⟨[endT n], full⟩ else G ⟨[endT n], full⟩) = _ ∨ _
    rw [if_neg (hc n)]
    rcases hG.fin n full with h | ⟨x, f, h⟩
    · exact Or.inl h
    · refine Or.inr ⟨x, f, ?_⟩
      show (if c (endT n) then F ⟨[endT n], full⟩ else G ⟨[endT n], full⟩) = _
      rw [if_neg (hc n)]
      exact h⟩
theorem good_pure {α : Type} (x : α) : Good (fun s => (.ok x s : Ans α)) :=
  ⟨⟨fun t L full _ hL => Or.inr ⟨x, t :: L, full, rfl, Suf.refl _, hL⟩, fun v vs vs' full _ _ _ => Or.inr (Or.inl ⟨x, full, rfl, rfl⟩), fun u us v vs vs' full _ _ _ => Or.inr (Or.inl ⟨x, u :: us, full, Suf.refl _, rfl, rfl⟩), fun u us v vs n full _ _ => Or.inr (Or.inl ⟨x, u :: us, full, by simp, Suf.refl _, rfl, rfl⟩)⟩, fun n full => Or.inr ⟨x, full, rfl⟩⟩
theorem on_bad {α : Type} {c : Tok → Prop} {e : Int} (he : code e) : GoodOn c (fun s => (s.bad e : Ans α)) :=
  ⟨fun t L full _ _ => Or.inl ⟨e, t.at_, rfl, by simp [ats], he⟩, fun v vs vs' full _ _ _ => Or.inl ⟨e, rfl, rfl⟩, fun u us v vs vs' full _ _ _ => Or.inl ⟨e, u.at_, by simp [ats], rfl, rfl⟩, fun u us v vs n full _ _ => Or.inl ⟨e, u.at_, by simp [ats], rfl, rfl⟩⟩
theorem good_bad {α : Type} : Good (fun s => (s.bad 40 : Ans α)) := ⟨on_bad (Or.inl rfl), fun _ _ => Or.inl rfl⟩
/-- no end -/
def NE (t : Tok) : Prop := ¬ (t.kind = 5 ∧ t.text = [])
theorem on_take : GoodOn NE PS.take := by
  have h1 : ∀ (t : Tok) L, PS.take ⟨t :: L, true⟩ = .no 42 t.at_ := fun t L => rfl
  have h2 : ∀ (t : Tok) L, PS.take ⟨t :: L, false⟩ = .ok t ⟨L, false⟩ := fun t L => rfl
  constructor
  · intro t L full hc hL
    cases full
    · exact Or.inr ⟨t, L, false, h2 t L, Suf.cons t (Suf.refl L), hL.tail hc⟩
    · exact Or.inl ⟨42, t.at_, h1 t L, by simp [ats], Or.inr (Or.inr rfl)⟩
  · intro v vs vs' full hc hv hv'
    cases full
    · exact Or.inr (Or.inr ⟨Or.inr ⟨v, vs, false, h2 v vs, Suf.refl _, hv⟩, Or.inr ⟨v, vs', false, h2 v vs', Suf.refl _, hv'⟩⟩)
    · exact Or.inl ⟨42, h1 v vs, h1 v vs'⟩
  · intro u us v vs vs' full hc hv hv'
    cases full
    · exact Or.inr (Or.inl ⟨u, us, false, Suf.cons u (Suf.refl us), h2 _ _, h2 _ _⟩)
    · exact Or.inl ⟨42, u.at_, by simp [ats], h1 _ _, h1 _ _⟩
  · intro u us v vs n full hc hv
    cases full
    · cases us with
      | nil => exact Or.inr (Or.inr (Or.inr ⟨u, false, h2 u [endT n]⟩))
      | cons u2 us2 => exact Or.inr (Or.inl ⟨u, u2 :: us2, false, by simp, Suf.cons u (Suf.refl _), h2 _ _, h2 _ _⟩)
    · exact Or.inl ⟨42, u.at_, by simp [ats], h1 _ _, h1 _ _⟩
end Go.Proofs.YteokdknaadckbaaGreatDoor
namespace Go.Proofs.YteokdknaadckbaaGreatDoor

theorem good_both {α : Type} {F G : PS → Ans α} (c : Tok → Prop) [∀ t, Decidable (c t)] (hF : Good F) (hG : Good G) : Good (fun s => if c s.hd then F s else G s) :=
  ⟨GoodOn.ite c (hF.on.mono fun _ _ => trivial) (hG.on.mono fun _ _ => trivial), fun n full => by
    by_cases h : c (endT n)
    · have e : (if c (endT n) then F ⟨[endT n], full⟩ else G ⟨[endT n], full⟩) = F ⟨[endT n], full⟩ := if_pos h
      have hx := hF.fin n full
      rw [← e] at hx
      exact hx
    · have e : (if c (endT n) then F ⟨[endT n], full⟩ else G ⟨[endT n], full⟩) = G ⟨[endT n], full⟩ := if_neg h
      have hx := hG.fin n full
      rw [← e] at hx
      exact hx⟩
theorem good_room {α : Type} {F : PS → Ans α} (a b : Nat) (h : Good F) : Good (fun s => F (s.room a b)) := by
  have e : ∀ L full, (⟨L, full⟩ : PS).room a b = ⟨L, if a = b then true else full⟩ := fun L full => by
    unfold PS.room
    by_cases h : a = b
    · rw [if_pos h, if_pos h]
    · rw [if_neg h, if_neg h]
  refine ⟨⟨?_, ?_, ?_, ?_⟩, ?_⟩
  · intro t L full hc hL; show (∃ e' a', F (PS.room _ a b) = _ ∧ _) ∨ (∃ x ws f, F (PS.room _ a b) = _ ∧ _); rw [e]; exact h.on.stay t L _ hc hL
  · intro v vs vs' full hc h1 h2
    have := h.on.here v vs vs' (if a = b then true else full) hc h1 h2
    rw [← e, ← e] at this; exact this
  · intro u us v vs vs' full hc h1 h2
    have := h.on.same u us v vs vs' (if a = b then true else full) hc h1 h2
    rw [← e, ← e] at this; exact this
  · intro u us v vs n full hc h1
    have := h.on.cut u us v vs n (if a = b then true else full) hc h1
    rw [← e, ← e] at this; exact this
  · intro n full
    have := h.fin n (if a = b then true else full)
    rw [← e] at this; exact this
theorem ne_text {t : Tok} {x : List UInt8} (hx : x ≠ []) (h : (t.text == x) = true) : NE t := fun e => by
  have h1 : t.text = x := by simpa using h
  rw [e.2] at h1
  exact hx h1.symm
theorem end_text {x : List UInt8} (hx : x ≠ []) (n : Nat) : ¬ ((endT n).text == x) = true := fun h => by
  have h1 : ([] : List UInt8) = x := by simpa [endT] using h
  exact hx h1.symm
/-- where a word comes, what takes it is good -/
theorem good_sees {α : Type} {F G : PS → Ans α} (x : List UInt8) (hx : x ≠ []) (hF : GoodOn NE F) (hG : Good G) : Good (fun s => if s.sees x = true then F s else G s) :=
  good_ite (fun t => (t.text == x) = true) (end_text hx) (hF.mono fun _ h => ne_text hx h) hG
theorem good_want (x : List UInt8) (hx : x ≠ []) : Good (fun s => s.want x) := good_sees x hx (on_take.bind fun _ => good_pure ()) good_bad
theorem good_ofKind (k : Int) (hk : k ≠ 5) : Good (fun s => s.ofKind k) :=
  good_ite (fun t => t.kind = k) (fun _ h => hk h.symm) (on_take.mono fun _ h e => hk (h ▸ e.1)) good_bad
theorem good_name : Good nameP := good_ofKind 1 (by decide)
theorem good_ref : Good refP := good_name.bind fun _ => good_pure _
theorem good_number : Good numberP := (good_ofKind 3 (by decide)).bind fun _ => good_pure _
theorem on_alone (k : Int) : GoodOn NE (aloneP k) := on_take.bind fun _ => good_pure _
theorem good_value : Good valueP := good_both (fun t => t.kind = 1) good_ref good_number
theorem good_natural : Good naturalP := good_both (fun t => t.num < 0) good_bad good_number
theorem good_bareRest (uns : Bool) (a : Nat) : ∀ l : List (Int × Bool × List UInt8), (∀ b ∈ l, b.2.2 ≠ []) → Good (bareRest uns a l)
  | [] => fun _ => good_bad
  | b :: l => fun h => by
    have ih := good_bareRest uns a l (fun x hx => h x (List.mem_cons_of_mem _ hx))
    have e : bareRest uns a (b :: l) = fun s => if (b.2.1 == uns && s.hd.text == b.2.2) = true then s.take.bind (fun _ s => .ok (.node b.1 [] 0 a []) s) else bareRest uns a l s := by
      funext s
      unfold bareRest
      by_cases hc : (b.2.1 == uns && s.hd.text == b.2.2) = true
      · rw [if_pos hc, List.find?_cons_of_pos (by exact hc)]
      · rw [if_neg hc, List.find?_cons_of_neg (by exact hc)]
    rw [e]
    refine good_ite (fun t => (b.2.1 == uns && t.text == b.2.2) = true) (fun n hn => ?_) ((on_take.bind fun _ => good_pure _).mono fun t ht => ?_) ih
    · rw [Bool.and_eq_true] at hn
      exact end_text (h b (List.mem_cons_self ..)) n hn.2
    · rw [Bool.and_eq_true] at ht
      exact ne_text (h b (List.mem_cons_self ..)) ht.2
theorem baresL_words : ∀ b ∈ baresL, b.2.2 ≠ [] := by
  intro b hb
  simp only [baresL, List.mem_cons, List.not_mem_nil, or_false] at hb
  rcases hb with rfl | rfl | rfl | rfl | rfl | rfl | rfl <;> decide
theorem bareP_eq (s : PS) : bareP s = if s.hd.kind = 1 then refP s else if (s.hd.text == wUnsigned) = true then s.take.bind (fun _ s' => bareRest true s.hd.at_ baresL s') else bareRest false s.hd.at_ baresL s := by
  unfold bareP
  by_cases h : s.hd.kind = 1
  · rw [if_pos h, if_pos h]
  · rw [if_neg h, if_neg h]
    have e : s.sees wUnsigned = (s.hd.text == wUnsigned) := rfl
    cases hu : (s.hd.text == wUnsigned)
    · rw [if_neg (by simp)]
      show Ans.bind (if s.sees wUnsigned = true then _ else _) _ = _
      rw [e, hu, if_neg (by simp)]
      rfl
    · rw [if_pos rfl]
      show Ans.bind (if s.sees wUnsigned = true then _ else _) _ = _
      rw [e, hu, if_pos rfl]
      cases s.take <;> rfl
theorem good_bare : Good bareP := by
  have e : bareP = fun s => (fun (t : Tok) (s : PS) => if t.kind = 1 then refP s else if (t.text == wUnsigned) = true then s.take.bind (fun _ s' => bareRest true t.at_ baresL s') else bareRest false t.at_ baresL s) s.hd s := funext bareP_eq
  rw [e]
  refine ⟨GoodOn.head (F := fun (t : Tok) (s : PS) => if t.kind = 1 then refP s else if (t.text == wUnsigned) = true then s.take.bind (fun _ s' => bareRest true t.at_ baresL s') else bareRest false t.at_ baresL s) fun t _ => ?_, fun n full => ?_⟩
  · by_cases h1 : t.kind = 1
    · have e1 : (fun s => if t.kind = 1 then refP s else if (t.text == wUnsigned) = true then s.take.bind (fun _ s' => bareRest true t.at_ baresL s') else bareRest false t.at_ baresL s) = refP := funext fun s => if_pos h1
      show GoodOn _ (fun s => _); rw [e1]; exact good_ref.on.mono fun _ _ => trivial
    · by_cases h2 : (t.text == wUnsigned) = true
      · have e1 : (fun s => if t.kind = 1 then refP s else if (t.text == wUnsigned) = true then s.take.bind (fun _ s' => bareRest true t.at_ baresL s') else bareRest false t.at_ baresL s) = fun s => s.take.bind (fun _ s' => bareRest true t.at_ baresL s') := funext fun s => by rw [if_neg h1, if_pos h2]
        show GoodOn _ (fun s => _); rw [e1]
        exact (on_take.bind fun _ => good_bareRest true t.at_ baresL baresL_words).mono fun x hx => by rw [hx]; exact ne_text (by decide) h2
      · have e1 : (fun s => if t.kind = 1 then refP s else if (t.text == wUnsigned) = true then s.take.bind (fun _ s' => bareRest true t.at_ baresL s') else bareRest false t.at_ baresL s) = fun s => bareRest false t.at_ baresL s := funext fun s => by rw [if_neg h1, if_neg h2]
        show GoodOn _ (fun s => _); rw [e1]
        exact (good_bareRest false t.at_ baresL baresL_words).on.mono fun _ _ => trivial
  · exact (good_bareRest false n baresL baresL_words).fin n full
theorem good_eq {α : Type} {F G : PS → Ans α} (h : Good G) (e : ∀ s, F s = G s) : Good F := by rw [show F = G from funext e]; exact h
theorem on_eq {α : Type} {c : Tok → Prop} {F G : PS → Ans α} (h : GoodOn c G) (e : ∀ s, F s = G s) : GoodOn c F := by rw [show F = G from funext e]; exact h
/-- where one more would be too many, what follows does not matter -/
theorem room_full {s : PS} {a : Nat} : (s.room a a).full = true := by unfold PS.room; rw [if_pos rfl]
theorem good_some {F : PS → Ans Tree} (hF : Good F) (hS : Strict F) (ws : List (List UInt8)) : ∀ (f : Nat) (acc : List Tree), acc.length + f = 66 → acc.length ≤ 64 → Good (someP F ws f acc)
  | 0, acc => fun h1 h2 => by omega
  | f + 1, acc => fun h1 h2 => by
    have hb : Good (fun s => (F (s.room acc.length 64)).bind fun t s => someP F ws f (acc ++ [t]) s) := by
      rcases Nat.lt_or_ge acc.length 64 with h3 | h3
      · exact (good_room acc.length 64 hF).bind fun t => good_some hF hS ws f (acc ++ [t]) (by simp; omega) (by simp; omega)
      · have h4 : acc.length = 64 := by omega
        refine good_eq ((good_room acc.length 64 hF).bind (G := fun _ s => Ans.ok [] s) fun _ => good_pure _) fun s => ?_
        rw [h4]
        obtain ⟨e, a, h⟩ := hS (s.room 64 64) room_full
        rw [h]; rfl
    exact good_eq (good_both (fun t => (acc.isEmpty || !(ws.any fun x => t.text == x)) = true) hb (good_pure acc)) fun s => by rw [someP]; rfl
theorem good_more {F : PS → Ans Tree} (hF : Good F) (most : Nat) (hm : most ≤ 64) : ∀ (f : Nat) (acc : List Tree), acc.length + f = 67 → acc.length ≤ most → Good (moreP F most f acc)
  | 0, acc => fun h1 h2 => by omega
  | f + 1, acc => fun h1 h2 => by
    have e : ∀ L full, (⟨L, full⟩ : PS).room acc.length most = ⟨L, if acc.length = most then true else full⟩ := fun L full => by
      unfold PS.room
      by_cases h : acc.length = most
      · rw [if_pos h, if_pos h]
      · rw [if_neg h, if_neg h]
    have hr : GoodOn NE (fun s => (s.room acc.length most).take) := by
      refine ⟨?_, ?_, ?_, ?_⟩
      · intro t L full hc hL; show (∃ e' a', (PS.room _ _ _).take = _ ∧ _) ∨ (∃ x ws f, (PS.room _ _ _).take = _ ∧ _); rw [e]; exact on_take.stay t L _ hc hL
      · intro v vs vs' full hc h1 h2
        have := on_take.here v vs vs' (if acc.length = most then true else full) hc h1 h2
        rw [← e, ← e] at this; exact this
      · intro u us v vs vs' full hc h1 h2
        have := on_take.same u us v vs vs' (if acc.length = most then true else full) hc h1 h2
        rw [← e, ← e] at this; exact this
      · intro u us v vs n full hc h1
        have := on_take.cut u us v vs n (if acc.length = most then true else full) hc h1
        rw [← e, ← e] at this; exact this
    have hb : GoodOn NE (fun s => (s.room acc.length most).take.bind fun _ s => (F s).bind fun t s => moreP F most f (acc ++ [t]) s) := by
      rcases Nat.lt_or_ge acc.length most with h3 | h3
      · exact hr.bind fun _ => hF.bind fun t => good_more hF most hm f (acc ++ [t]) (by simp; omega) (by simp; omega)
      · have h4 : acc.length = most := by omega
        refine on_eq (hr.bind (G := fun _ s => Ans.ok [] s) fun _ => good_pure _) fun s => ?_
        rw [h4]
        obtain ⟨e, a, h⟩ := strict_take (s.room most most) room_full
        rw [h]; rfl
    exact good_eq (good_sees [44] (by simp) hb (good_pure acc)) fun s => by rw [moreP]
theorem good_parted {F : PS → Ans Tree} (hF : Good F) (most : Nat) (h1 : 1 ≤ most) (hm : most ≤ 64) : Good (partedP F most) := hF.bind fun t => good_more hF most hm 66 [t] (by simp) (by simpa using h1)
theorem good_member : Good memberP := good_name.bind fun n => (good_want [61] (by simp)).bind fun _ => good_value.bind fun _ => good_pure _
theorem good_members : Good membersP := (good_want [123] (by simp)).bind fun _ => (good_parted good_member 64 (by omega) (by omega)).bind fun l => (good_want [125] (by simp)).bind fun _ => good_pure _
theorem good_sized (k : Int) (of : Tree) : Good (sizedP k of) := by
  refine good_name.bind fun n => ?_
  have h3 : Good (fun s => if (k == 25 || k == 26) = true then (s.bad 40 : Ans Tree) else .ok (named 14 n [of]) s) := good_both (fun _ => (k == 25 || k == 26) = true) good_bad (good_pure _)
  have hl : Good (fun s => (s.want [60]).bind fun _ s => if s.sees [62] then (s.want [62]).bind fun _ s => Ans.ok (named 16 n [of]) s else (valueP s).bind fun v s => (s.want [62]).bind fun _ s => .ok (named 16 n [of, v]) s) := by
    refine (good_want [60] (by simp)).bind fun _ => ?_
    exact good_both (fun t => (t.text == [62]) = true) ((good_want [62] (by simp)).bind fun _ => good_pure _) (good_value.bind fun v => (good_want [62] (by simp)).bind fun _ => good_pure _)
  have h2 := good_both (fun t => (t.text == [60]) = true) hl h3
  have h1 : GoodOn (fun t => (t.text == [91] && k != 26) = true) (fun s => s.take.bind fun _ s => (valueP s).bind fun v s => (s.want [93]).bind fun _ s => Ans.ok (named 15 n [of, v]) s) := by
    refine (on_take.bind fun _ => good_value.bind fun v => (good_want [93] (by simp)).bind fun _ => good_pure _).mono fun t ht => ?_
    rw [Bool.and_eq_true] at ht
    exact ne_text (by simp) ht.1
  exact good_ite (fun t => (t.text == [91] && k != 26) = true) (fun n hn => by rw [Bool.and_eq_true] at hn; exact end_text (by simp) n hn.1) h1 h2
theorem good_written {B : PS → Ans Tree} (hB : GoodOn NE B) : Good (writtenP B) := by
  refine good_ite (fun t => (t.text == wEnum || t.text == wStruct || t.text == wUnion) = true) (fun n hn => ?_) (hB.mono fun t ht => ?_) good_bare
  · rw [Bool.or_eq_true, Bool.or_eq_true] at hn
    rcases hn with (h | h) | h
    · exact end_text (by decide) n h
    · exact end_text (by decide) n h
    · exact end_text (by decide) n h
  · rw [Bool.or_eq_true, Bool.or_eq_true] at ht
    rcases ht with (h | h) | h
    · exact ne_text (by decide) h
    · exact ne_text (by decide) h
    · exact ne_text (by decide) h
theorem good_something {B : PS → Ans Tree} (hB : GoodOn NE B) : Good (somethingP B) := by
  refine good_sees wOpaque (by decide) ((on_alone 25).bind fun t => good_sized 25 t) ?_
  refine good_sees wString (by decide) ((on_alone 26).bind fun t => good_sized 26 t) ?_
  refine (good_written hB).bind fun of => ?_
  exact good_sees [42] (by simp) (on_take.bind fun _ => good_name.bind fun _ => good_pure _) (good_sized of.kind of)
theorem good_declaration {B : PS → Ans Tree} (hB : GoodOn NE B) : Good (declarationP B) := good_sees wVoid (by decide) (on_alone 13) (good_something hB)
theorem good_field {B : PS → Ans Tree} (hB : GoodOn NE B) : Good (fieldP B) := (good_declaration hB).bind fun t => (good_want [59] (by simp)).bind fun _ => good_pure _
theorem good_fields {B : PS → Ans Tree} (hB : GoodOn NE B) (hS : Strict B) : Good (fieldsP B) := (good_want [123] (by simp)).bind fun _ => (good_some (good_field hB) (strict_field hS) [[125]] 66 [] (by simp) (by simp)).bind fun l => (good_want [125] (by simp)).bind fun _ => good_pure _
theorem good_cases : ∀ (f : Nat) (acc : List Tree), acc.length + f = 66 → acc.length ≤ 64 → Good (casesP f acc)
  | 0, acc => fun h1 h2 => by omega
  | f + 1, acc => fun h1 h2 => by
    have hb : Good (fun s => ((s.room acc.length 64).want wCase).bind fun _ s => (valueP s).bind fun v s => (s.want [58]).bind fun _ s => casesP f (acc ++ [v]) s) := by
      have hw := good_room acc.length 64 (good_want wCase (by decide))
      rcases Nat.lt_or_ge acc.length 64 with h3 | h3
      · exact hw.bind fun _ => good_value.bind fun v => (good_want [58] (by simp)).bind fun _ => good_cases f (acc ++ [v]) (by simp; omega) (by simp; omega)
      · have h4 : acc.length = 64 := by omega
        refine good_eq (hw.bind (G := fun _ s => Ans.ok [] s) fun _ => good_pure _) fun s => ?_
        rw [h4]
        obtain ⟨e, a, h⟩ := strict_want wCase (s.room 64 64) room_full
        have h' : (s.room 64 64).want wCase = .no e a := h
        rw [h']; rfl
    exact good_eq (good_both (fun t => (acc.isEmpty || t.text == wCase) = true) hb (good_pure acc)) fun s => by rw [casesP]; rfl
theorem good_arm {B : PS → Ans Tree} (hB : GoodOn NE B) : Good (armP B) := by
  have hx : ∀ a, Good (fun s => (casesP 66 [] s).bind fun l s => (fieldP B s).bind fun t s => Ans.ok (Tree.node 8 [] 0 a (l ++ [t])) s) := fun a => (good_cases 66 [] (by simp) (by simp)).bind fun l => (good_field hB).bind fun _ => good_pure _
  refine ⟨GoodOn.head (F := fun t s => (casesP 66 [] s).bind fun l s => (fieldP B s).bind fun t' s => Ans.ok (Tree.node 8 [] 0 t.at_ (l ++ [t'])) s) fun t _ => (hx t.at_).on.mono fun _ _ => trivial, fun n full => (hx n).fin n full⟩
theorem good_otherwise {B : PS → Ans Tree} (hB : GoodOn NE B) : GoodOn NE (otherwiseP B) := (on_alone 9).bind fun e => (good_want [58] (by simp)).bind fun _ => (good_field hB).bind fun t => by
  obtain ⟨k, n, m, i, ks⟩ := e
  exact good_pure _
theorem good_choice {B : PS → Ans Tree} (hB : GoodOn NE B) : Good (choiceP B) := by
  refine good_eq ?_ (choiceP_eq B)
  refine (good_want wSwitch (by decide)).bind fun _ => (good_want [40] (by simp)).bind fun _ => (good_declaration hB).bind fun d_ => (good_want [41] (by simp)).bind fun _ => (good_want [123] (by simp)).bind fun _ => (good_some (good_arm hB) (strict_arm B) [wDefault, [125]] 66 [] (by simp) (by simp)).bind fun l => ?_
  exact good_sees wDefault (by decide) ((good_otherwise hB).bind fun o => (good_want [125] (by simp)).bind fun _ => good_pure _) ((good_want [125] (by simp)).bind fun _ => good_pure _)
theorem on_body : ∀ (n : Nat) (b : Bool), GoodOn NE (bodyP n b)
  | 0, b => on_bad (Or.inr (Or.inl rfl))
  | n + 1, b => by
    refine on_take.bind fun word => ?_
    have hn : Good (fun s => if b = true then (nameP s).bind fun n s => Ans.ok (n.text, n.at_) s else .ok ([], word.at_) s) := good_both (fun _ => b = true) (good_name.bind fun _ => good_pure _) (good_pure _)
    refine hn.bind fun na => ?_
    refine good_both (fun _ => word.text = wEnum) (good_members.bind fun _ => good_pure _) ?_
    exact good_both (fun _ => word.text = wStruct) ((good_fields (on_body n false) (strict_body n false)).bind fun _ => good_pure _) ((good_choice (on_body n false)).bind fun _ => good_pure _)
theorem on_numbered (k : Int) {F : PS → Ans Tree} (hF : Good F) (hS : Strict F) : GoodOn NE (numberedP k F) :=
  on_take.bind fun _ => good_name.bind fun n => (good_want [123] (by simp)).bind fun _ => (good_some hF hS [[125]] 66 [] (by simp) (by simp)).bind fun l => (good_want [125] (by simp)).bind fun _ => (good_want [61] (by simp)).bind fun _ => good_natural.bind fun _ => good_pure _
theorem good_result : Good resultP := good_sees wVoid (by decide) (on_alone 13) good_bare
theorem good_arguments : Good argumentsP := good_sees wVoid (by decide) ((on_alone 13).bind fun _ => good_pure _) (good_parted good_bare 4 (by omega) (by omega))
theorem good_procedure : Good procedureP := good_result.bind fun r => good_name.bind fun n => (good_want [40] (by simp)).bind fun _ => good_arguments.bind fun l => (good_want [41] (by simp)).bind fun _ => (good_want [61] (by simp)).bind fun _ => good_natural.bind fun v => (good_want [59] (by simp)).bind fun _ => good_pure _
theorem good_version : Good versionP := good_sees wVersion (by decide) ((on_numbered 11 good_procedure strict_procedure).bind fun t => (good_want [59] (by simp)).bind fun _ => good_pure _) good_bad
theorem good_definition : Good definitionP := by
  refine good_sees wConst (by decide) (((good_want wConst (by decide)).bind fun _ => good_name.bind fun n => (good_want [61] (by simp)).bind fun _ => good_number.bind fun _ => good_pure _).on.mono fun _ _ => trivial) ?_
  refine good_sees wTypedef (by decide) (on_take.bind fun t => (good_something (on_body 8 false)).bind fun _ => good_pure _) ?_
  refine good_ite (fun t => (t.text == wEnum || t.text == wStruct || t.text == wUnion) = true) (fun n hn => ?_) ((on_body 8 true).mono fun t ht => ?_) ?_
  · rw [Bool.or_eq_true, Bool.or_eq_true] at hn
    rcases hn with (h | h) | h
    · exact end_text (by decide) n h
    · exact end_text (by decide) n h
    · exact end_text (by decide) n h
  · rw [Bool.or_eq_true, Bool.or_eq_true] at ht
    rcases ht with (h | h) | h
    · exact ne_text (by decide) h
    · exact ne_text (by decide) h
    · exact ne_text (by decide) h
  · exact good_sees wProgram (by decide) (on_numbered 10 good_version strict_version) good_bad
theorem good_source : ∀ (f : Nat) (acc : List Tree), acc.length + f = 102 → acc.length ≤ 100 → Good (sourceP f acc)
  | 0, acc => fun h1 h2 => by omega
  | f + 1, acc => fun h1 h2 => by
    have hb : Good (fun s => (definitionP (s.room acc.length 100)).bind fun t s => (s.want [59]).bind fun _ s => sourceP f (acc ++ [t]) s) := by
      rcases Nat.lt_or_ge acc.length 100 with h3 | h3
      · exact (good_room acc.length 100 good_definition).bind fun t => (good_want [59] (by simp)).bind fun _ => good_source f (acc ++ [t]) (by simp; omega) (by simp; omega)
      · have h4 : acc.length = 100 := by omega
        refine good_eq ((good_room acc.length 100 good_definition).bind (G := fun _ s => Ans.ok [] s) fun _ => good_pure _) fun s => ?_
        rw [h4]
        obtain ⟨e, a, h⟩ := strict_definition (s.room 100 100) room_full
        rw [h]; rfl
    exact good_eq (good_both (fun t => t.kind = 5) (good_pure acc) hb) fun s => by rw [sourceP]
theorem good_top : Good (sourceP 102 []) := good_source 102 [] (by simp) (by simp)
end Go.Proofs.YteokdknaadckbaaGreatDoor
namespace Go.Proofs.YteokdknaadckbaaGreatDoor

theorem step_same2 {l l' : List UInt8} {i j p : Nat} {t : Option Tok} (hi : i < l.length) (hs : stepS l i = .go t j) (ha : ∀ k, k < p → l'.getD k 0 = l.getD k 0) (hp : p ≤ l'.length) (hj : j ≤ p)
    (hb : runB (l.getD p 0) = false → runB (l'.getD p 0) = false) : stepS l' i = .go t j := by
  have hlt := step_lt hi hs
  have ei : l'.getD i 0 = l.getD i 0 := ha i (by omega)
  have stop : runB (l.getD j 0) = false → runB (l'.getD j 0) = false := fun h => by
    rcases Nat.lt_or_ge j p with h1 | h1
    · rw [ha j h1]; exact h
    · obtain rfl : j = p := by omega
      exact hb h
  have en : numAt l' i = numAt l i := by unfold numAt; rw [ei]
  unfold stepS at hs
  unfold stepS
  rw [ei, en]
  split at hs
  · rename_i h; rw [if_pos h]; exact hs
  rename_i h; rw [if_neg h]
  split at hs
  · rename_i h
    split at hs
    · cases hs
    · rename_i hc
      cases hs
      obtain ⟨h1, h2, h3, h4, h5⟩ := cend_some hc
      rw [if_pos ⟨h.1, by rw [ha (i + 1) (by omega)]; exact h.2⟩]
      rw [cend_is (l := l') (i := i + 2) (j := j) h1 (by rw [ha _ (by omega)]; exact h3) (by rw [ha _ (by omega)]; exact h4) fun k h6 h7 => by
        rw [ha k (by omega), ha (k + 1) (by omega)]; exact h5 k h6 h7]
  split at hs
  · rename_i hc hl
    rw [if_neg (fun h => (let_not hl).2.1 h.1), if_pos hl]
    split at hs
    · cases hs
    · rename_i h32
      have hj2 : runEnd l i = j := by cases hs; rfl
      have e1 : runEnd l' i = j := runEnd_same (by omega) (fun k hk => ha k (by omega)) hj2 (stop (by rw [← hj2]; exact runEnd_not (by omega)))
      rw [hj2] at hs h32
      rw [e1, if_neg h32, sub_same (fun k hk => ha k (by omega)) (by omega) (by omega)]
      exact hs
  split at hs
  · rename_i hc hl hd
    have h45 : numAt l i < j := by
      have hn : numAt l i < l.length := by
        rcases Nat.lt_or_ge (numAt l i) l.length with h | h
        · exact h
        · rw [getD_ge h] at hd; cases hd
      have h1 := runEnd_go (dig_not hd).2.2.2.2.2
      have h2 := runEnd_le (l := l) (i := numAt l i + 1) (by omega)
      split at hs
      · cases hs
      · cases hs; omega
    have hn47 : ¬ (l.getD i 0 = 47 ∧ l'.getD (i + 1) 0 = 42) := fun h => by
      have : numAt l i = i := by unfold numAt; rw [h.1]; rfl
      rw [this, h.1] at hd; cases hd
    rw [if_neg hn47, if_neg hl, ha _ (by omega), if_pos hd]
    split at hs
    · cases hs
    · rename_i n hn
      have hj2 : runEnd l (numAt l i) = j := by cases hs; rfl
      have hi2 : numAt l i ≤ l.length := by omega
      have e1 : runEnd l' (numAt l i) = j := runEnd_same (by omega) (fun k hk => ha k (by omega)) hj2 (stop (by rw [← hj2]; exact runEnd_not hi2))
      rw [hj2] at hn hs
      rw [e1, sub_same (fun k hk => ha k (by omega)) (by omega) (by omega), hn]
      exact hs
  split at hs
  · rename_i hc hl hd hsg
    have hb2 := sign_not hsg
    have hn : numAt l i = i := by unfold numAt; rw [if_neg hb2.2.2.2.1]
    rw [if_neg (fun h => hb2.2.1 h.1), if_neg hl, hn, ei, if_neg (by rw [hb2.2.2.2.2.1]; decide), if_pos hsg]
    have hj2 : i + 1 = j := by cases hs; rfl
    rw [sub_same (fun k hk => ha k (by omega)) (by omega) (by omega)]
    exact hs
  · cases hs

theorem Reach.same2 {l l' : List UInt8} {i p : Nat} {ts us : List Tok} (h : Reach l i ts p us) (ha : ∀ k, k < p → l'.getD k 0 = l.getD k 0) (hp : p ≤ l'.length) (hb : runB (l.getD p 0) = false → runB (l'.getD p 0) = false) : Reach l' i ts p us := by
  induction h with
  | refl => exact .refl
  | step h hs hr ih =>
    have h1 := step_lt h hs
    have h2 := hr.le
    exact .step (by omega) (step_same2 h hs ha hp h2 hb) (ih ha hp hb)
theorem step_at {l : List UInt8} {i j : Nat} {t : Tok} (hs : stepS l i = .go (some t) j) : t.at_ = i := by
  unfold stepS at hs
  repeat' split at hs
  all_goals cases hs
  all_goals rfl
theorem scans_prefix {l : List UInt8} {i : Nat} {ts vs : List Tok} {R : Res} (h : Scans l i ts R) (hR : R = .ok vs) : ∃ r, vs = ts ++ r ∧ r ≠ [] := by
  induction h with
  | done _ => cases hR; exact ⟨_, rfl, by simp⟩
  | err _ _ => cases hR
  | go _ _ _ ih =>
    obtain ⟨r, h1, h2⟩ := ih hR
    exact ⟨_, by rw [h1, List.append_assoc], by simp [h2]⟩
theorem Reach.forth {l : List UInt8} {i k : Nat} {ts us : List Tok} {R : Res} (h : Reach l i ts k us) (hs : Scans l i ts R) : Scans l k us R := by
  induction h with
  | refl => exact hs
  | step h1 h2 _ ih =>
    cases hs with
    | done h => omega
    | err h h3 => rw [h2] at h3; cases h3
    | go h h3 h4 => rw [h2] at h3; cases h3; exact ih h4
theorem reach_ats {l : List UInt8} {i k : Nat} {ts us : List Tok} (h : Reach l i ts k us) (ha : ∀ t ∈ ts, t.at_ < i) : ∀ t ∈ us, t.at_ < k := by
  induction h with
  | refl => exact ha
  | @step i ts o j k us h1 h2 _ ih =>
    refine ih fun t ht => ?_
    have h3 := step_lt h1 h2
    rw [List.mem_append] at ht
    rcases ht with ht | ht
    · have := ha t ht; omega
    · cases o with
      | none => simp at ht
      | some x =>
        simp at ht
        have := step_at h2
        rw [ht]
        omega
theorem reach_le {l : List UInt8} {i k : Nat} {ts us : List Tok} (h : Reach l i ts k us) (hi : i ≤ l.length) : k ≤ l.length := by
  induction h with
  | refl => exact hi
  | step h1 h2 _ ih => exact ih (step_lt h1 h2).2
theorem scans_split {l : List UInt8} {i : Nat} {ts vs : List Tok} {R : Res} (h : Scans l i ts R) : ∀ (us ws : List Tok) (v : Tok), R = .ok vs → i ≤ l.length → vs = us ++ v :: ws → ts.length ≤ us.length → Reach l i ts v.at_ us := by
  induction h with
  | @done i0 ts0 h =>
    intro us ws v hR hi he hl
    cases hR
    have h1 := congrArg List.length he
    simp at h1
    obtain ⟨rfl, h2⟩ := List.append_inj he (by omega)
    simp at h2
    obtain ⟨rfl, _⟩ := h2
    have : i0 = l.length := by omega
    subst this
    exact .refl
  | err _ _ => intro us ws v hR; cases hR
  | @go i0 ts0 t j R0 h1 h2 h3 ih =>
    intro us ws v hR hi he hl
    have h4 := step_lt h1 h2
    rcases Nat.lt_or_ge us.length (ts0 ++ t.toList).length with h5 | h5
    · cases t with
      | none => simp at h5; omega
      | some x =>
        simp at h5
        obtain ⟨r, h6, _⟩ := scans_prefix h3 hR
        rw [he] at h6
        have h7 : us = ts0 ∧ v :: ws = x :: r := List.append_inj (by rw [h6]; simp) (by omega)
        obtain ⟨rfl, h8⟩ := h7
        cases h8
        rw [step_at h2]
        exact .refl
    · exact .step h1 h2 (ih us ws v hR h4.2 he h5)
theorem EndL.suffix {a b : List Tok} (h : EndL (a ++ b)) (hb : b ≠ []) : EndL b := by
  obtain ⟨c, n, h⟩ := h
  rcases List.eq_nil_or_concat b with rfl | ⟨b', x, rfl⟩
  · exact absurd rfl hb
  · rw [List.concat_eq_append] at h ⊢
    rw [← List.append_assoc] at h
    obtain ⟨_, h2⟩ := List.append_inj' h rfl
    cases h2
    exact ⟨b', n, rfl⟩

theorem places {l : List UInt8} {ts : List Tok} {e : Int} {n : Nat} (hs : scanP l = .ok ts) (hp : sourceP 102 [] ⟨ts, false⟩ = .no e n) :
    ∃ us v vs, ts = us ++ v :: vs ∧ v.at_ = n ∧ (∀ x ∈ us, x.at_ ≠ n) ∧ code e ∧ n ≤ l.length ∧ (parseP (l.take n) = .err 40 n ∨ ∃ t, parseP (l.take n) = .ok t) ∧
      (∀ w ws, vs = w :: ws → w.at_ ≤ l.length ∧ ∀ rest : List UInt8, (∃ ts2, scanP (l.take w.at_ ++ [32] ++ rest) = .ok ts2) → parseP (l.take w.at_ ++ [32] ++ rest) = .err e n) := by
  have hl := (scan_ok hs).1
  have hS := scanP_scans hl
  rw [hs] at hS
  have hEL : EndL ts := by
    obtain ⟨us, h⟩ := ok_last hS rfl
    exact ⟨us, l.length, h⟩
  obtain ⟨hn, hcode⟩ : n ∈ ats ts ∧ code e := by
    rcases good_top.stays ts false hEL with ⟨e', a, h1, h2, h3⟩ | ⟨x, ws, f, h1, _⟩
    · rw [hp] at h1; cases h1; exact ⟨h2, h3⟩
    · rw [hp] at h1; cases h1
  obtain ⟨v, hv, hvn⟩ := List.mem_map.1 hn
  obtain ⟨us, vs, rfl⟩ := List.append_of_mem hv
  have hR : Reach l 0 [] n us := hvn ▸ scans_split hS us vs v rfl (Nat.zero_le _) rfl (Nat.zero_le _)
  have hlt : ∀ x ∈ us, x.at_ < n := reach_ats hR (fun t ht => by cases ht)
  have hgt : ∀ x ∈ vs, n < x.at_ := fun x hx => by
    obtain ⟨a, b, rfl⟩ := List.append_of_mem hx
    have h1 := scans_split hS (us ++ v :: a) b x rfl (Nat.zero_le _) (by simp) (Nat.zero_le _)
    have h2 := reach_ats h1 (fun t ht => by cases ht) v (by simp)
    omega
  have hle : ∀ x ∈ us ++ v :: vs, x.at_ ≤ l.length := fun x hx => by
    obtain ⟨a, b, hab⟩ := List.append_of_mem hx
    have h1 := scans_split hS a b x rfl (Nat.zero_le _) hab (Nat.zero_le _)
    exact reach_le h1 (Nat.zero_le _)
  have hnl : n ≤ l.length := hvn ▸ hle v (by simp)
  have hEv : EndL (v :: vs) := hEL.suffix (by simp)
  refine ⟨us, v, vs, rfl, hvn, fun x hx => Nat.ne_of_lt (hlt x hx), hcode, hnl, ?_, ?_⟩
  · have hlen : (l.take n).length = n := by simp; omega
    have hsc : scanP (l.take n) = .ok (us ++ [endT n]) := by
      have h1 : Reach (l.take n) 0 [] n us := hR.same (fun k hk => getD_take hk) (by omega) (Or.inr hlen)
      have h2 : Scans (l.take n) n us (.ok (us ++ [⟨5, [], 0, (l.take n).length⟩])) := .done (by omega)
      have h3 := (scanP_scans (l := l.take n) (by omega)).det (h1.scans h2)
      rw [h3, hlen]; rfl
    have hfin : sourceP 102 [] ⟨us ++ [endT n], false⟩ = .no 40 n ∨ ∃ x f, sourceP 102 [] ⟨us ++ [endT n], false⟩ = .ok x ⟨[endT n], f⟩ := by
      cases us with
      | nil => exact good_top.fin n false
      | cons u us =>
        rcases good_top.on.cut u us v vs n false trivial hEv with ⟨e', a, h0, h1, _⟩ | ⟨x, us', f, _, _, h1, _⟩ | h1
        · rw [hp] at h1
          cases h1
          obtain ⟨y, hy, hyn⟩ := List.mem_map.1 h0
          have := hlt y hy
          omega
        · rw [hp] at h1; cases h1
        · exact h1
    unfold parseP
    rw [hsc]
    rcases hfin with h1 | ⟨x, f, h1⟩
    · exact Or.inl (by show (match sourceP 102 [] _ with | .ok ks _ => PRes.ok (.node 1 [] 0 0 ks) | .no e i => .err e i) = _; rw [h1])
    · exact Or.inr ⟨.node 1 [] 0 0 x, by show (match sourceP 102 [] _ with | .ok ks _ => PRes.ok (.node 1 [] 0 0 ks) | .no e i => .err e i) = _; rw [h1]⟩
  · intro w ws hvs
    subst hvs
    have hwl := hle w (by simp)
    refine ⟨hwl, ?_⟩
    rintro rest ⟨ts2, h2⟩
    have hlen : (l.take w.at_).length = w.at_ := by simp; omega
    have hRw : Reach l 0 [] w.at_ (us ++ [v]) := scans_split hS (us ++ [v]) ws w rfl (Nat.zero_le _) (by simp) (Nat.zero_le _)
    have hR2 : Reach (l.take w.at_ ++ [32] ++ rest) 0 [] w.at_ (us ++ [v]) := by
      refine hRw.same2 (fun k hk => ?_) (by simp; omega) (fun _ => ?_)
      · rw [List.append_assoc, getD_app (by omega)]; exact getD_take hk
      · rw [List.append_assoc, getD_app_r (by omega), hlen, Nat.sub_self]; rfl
    have hS2 := scanP_scans (scan_ok h2).1
    rw [h2] at hS2
    obtain ⟨r, hr, hrn⟩ := scans_prefix (hR2.forth hS2) rfl
    have hEr : EndL r := by
      obtain ⟨us2, h⟩ := ok_last hS2 rfl
      have h3 : EndL (us ++ [v] ++ r) := ⟨us2, _, hr ▸ h⟩
      exact h3.suffix hrn
    have hEw : EndL (w :: ws) := by
      have h3 : EndL ([v] ++ (w :: ws)) := hEv
      exact h3.suffix (by simp)
    have hnot : ¬ n ∈ ats (w :: ws) := fun h => by
      obtain ⟨y, hy, hyn⟩ := List.mem_map.1 h
      have := hgt y hy
      omega
    have hfin : sourceP 102 [] ⟨us ++ v :: r, false⟩ = .no e n := by
      cases us with
      | nil =>
        rcases good_top.on.here v (w :: ws) r false trivial hEw hEr with ⟨e', h3, h4⟩ | ⟨x, f, h3, _⟩ | ⟨h3, _⟩
        · have h5 : sourceP 102 [] ⟨v :: w :: ws, false⟩ = .no e n := hp
          rw [h5] at h3; cases h3; exact h4
        · have h5 : sourceP 102 [] ⟨v :: w :: ws, false⟩ = .no e n := hp
          rw [h5] at h3; cases h3
        · have h5 : sourceP 102 [] ⟨v :: w :: ws, false⟩ = .no e n := hp
          rw [h5] at h3
          rcases h3 with ⟨e', a, h6, h7⟩ | ⟨x, y, f, h6, _⟩
          · cases h6; exact absurd h7 hnot
          · cases h6
      | cons u us =>
        rcases good_top.on.same u us v (w :: ws) r false trivial hEw hEr with ⟨e', a, _, h3, h4⟩ | ⟨x, us', f, _, h3, _⟩ | ⟨h3, _⟩
        · rw [hp] at h3; cases h3; exact h4
        · rw [hp] at h3; cases h3
        · rw [hp] at h3
          rcases h3 with ⟨e', a, h6, h7⟩ | ⟨x, y, f, h6, _⟩
          · cases h6; exact absurd h7 hnot
          · cases h6
    unfold parseP
    rw [h2, hr, show us ++ [v] ++ r = us ++ v :: r by simp]
    show (match sourceP 102 [] _ with | .ok ks _ => PRes.ok (.node 1 [] 0 0 ks) | .no e i => .err e i) = _
    rw [hfin]
end Go.Proofs.YteokdknaadckbaaGreatDoor
namespace Go.Proofs.YteokdknaadckbaaGreatDoor.Lx
open Go.RowKit

/-- tokens that lie in memory -/
structure TokAt (w : World) (g off : Nat) (ts : List Tok) : Prop where
  c0 : ∀ i t, ts[i]? = some t → w.cell? ⟨g, off + i * 4, none⟩ = some (.int .i64 t.kind)
  c1 : ∀ i t, ts[i]? = some t → w.cell? ⟨g, off + i * 4 + 1, none⟩ = some (S t.text)
  c2 : ∀ i t, ts[i]? = some t → w.cell? ⟨g, off + i * 4 + 2, none⟩ = some (.int .i64 t.num)
  c3 : ∀ i t, ts[i]? = some t → w.cell? ⟨g, off + i * 4 + 3, none⟩ = some (.int .i64 t.at_)

def TokRow (w : World) (v : Value) (ts : List Tok) : Prop := ∃ oa cap g off, v = .slice oa ts.length cap ∧ (0 < ts.length → oa = some ⟨g, off, none⟩) ∧ TokAt w g off ts

theorem fields37 : Tryz.prog.underlying 41 = some (.struct (Tryz.prog.fieldsOf 41)) := by kernel_rfl
theorem fieldsOf37 : (Tryz.prog.fieldsOf 41).toList = [⟨"Kind", 3, 0, false, "", "", 0⟩, ⟨"Text", 9, 1, false, "", "", 8⟩, ⟨"Number", 3, 2, false, "", "", 24⟩, ⟨"At", 3, 3, false, "", "", 32⟩] := by unfold Program.fieldsOf; rw [Tryz.underlying41]
theorem stood37 : Tryz.prog.stoodInHeld 41 = false := by kernel_rfl
theorem guard37 : Tryz.prog.eqGuardType Tryz.prog.depth 41 = false := by kernel_rfl

theorem bytes_beq (a b : List UInt8) : ((⟨a.toArray⟩ : ByteArray).toList == (⟨b.toArray⟩ : ByteArray).toList) = (a == b) := by
  rw [ByteArray.toList_eq, ByteArray.toList_eq]

theorem tok_eq (a b : Tok) : decide (a = b) = (a.kind == b.kind && (a.text == b.text && (a.num == b.num && (a.at_ : Int) == (b.at_ : Int)))) := by
  obtain ⟨k1, t1, n1, a1⟩ := a
  obtain ⟨k2, t2, n2, a2⟩ := b
  rw [Bool.eq_iff_iff]; simp; omega

theorem part3 (w : World) (xs : Array Value) (o : Nat) (v : Value) (h : xs[o]? = some v) : (part 3 xs o).run Tryz.prog w = .ok v w := by
  unfold part isAgg
  simp [run_underlying Tryz.underlying3, h]
theorem part9 (w : World) (xs : Array Value) (o : Nat) (v : Value) (h : xs[o]? = some v) : (part 9 xs o).run Tryz.prog w = .ok v w := by
  unfold part isAgg
  simp [run_underlying Tryz.underlying9, h]

theorem equalIn37 (w : World) (a b : Tok) : (Op.equalIn 10000 41 (.agg #[.int .i64 a.kind, S a.text, .int .i64 a.num, .int .i64 a.at_]) (.agg #[.int .i64 b.kind, S b.text, .int .i64 b.num, .int .i64 b.at_])).run Tryz.prog w = .ok (decide (a = b)) w := by
  rw [run_equalIn_agg (ht := fields37) (hp := stood37), fieldsOf37, tok_eq]
  have ek : ∀ x y : Int, (Op.equalIn 9999 3 (.int .i64 x) (.int .i64 y)).run Tryz.prog w = .ok (x == y) w := fun (x y : Int) => run_equalIn_int (P := Tryz.prog) w 9998 3 .i64 .i64 x y Tryz.underlying3
  have es : ∀ x y : ByteArray, (Op.equalIn 9999 9 (.string x) (.string y)).run Tryz.prog w = .ok (x.toList == y.toList) w := fun (x y : ByteArray) => run_equalIn_string (P := Tryz.prog) w 9998 9 x y Tryz.underlying9
  have n1 : "Kind" ≠ "_" := by decide
  have n2 : "Text" ≠ "_" := by decide
  have n3 : "Number" ≠ "_" := by decide
  have n4 : "At" ≠ "_" := by decide
  simp only [Op.eqFields, if_pos n1, if_pos n2, if_pos n3, if_pos n4, Sem.run_bind]
  rw [part3 w _ 0 (.int .i64 a.kind) rfl]
  simp only [Result.andThen_ok]
  rw [part3 w _ 0 (.int .i64 b.kind) rfl]
  simp only [Result.andThen_ok]
  rw [ek]
  simp only [Result.andThen_ok]
  cases a.kind == b.kind
  · rfl
  simp only [Bool.not_true, Bool.false_eq_true, if_false, Sem.run_bind]
  rw [part9 w _ 1 (S a.text) rfl]
  simp only [Result.andThen_ok]
  rw [part9 w _ 1 (S b.text) rfl]
  simp only [Result.andThen_ok]
  rw [es, bytes_beq]
  simp only [Result.andThen_ok]
  cases a.text == b.text
  · rfl
  simp only [Bool.not_true, Bool.false_eq_true, if_false, Sem.run_bind]
  rw [part3 w _ 2 (.int .i64 a.num) rfl]
  simp only [Result.andThen_ok]
  rw [part3 w _ 2 (.int .i64 b.num) rfl]
  simp only [Result.andThen_ok]
  rw [ek]
  simp only [Result.andThen_ok]
  cases a.num == b.num
  · rfl
  simp only [Bool.not_true, Bool.false_eq_true, if_false, Sem.run_bind]
  rw [part3 w _ 3 (.int .i64 a.at_) rfl]
  simp only [Result.andThen_ok]
  rw [part3 w _ 3 (.int .i64 b.at_) rfl]
  simp only [Result.andThen_ok]
  rw [ek]
  simp only [Result.andThen_ok]
  cases (a.at_ : Int) == (b.at_ : Int)
  · rfl
  · rfl

theorem eql37 (w : World) (a b : Tok) : (binOp .eql 41 (.agg #[.int .i64 a.kind, S a.text, .int .i64 a.num, .int .i64 a.at_]) (.agg #[.int .i64 b.kind, S b.text, .int .i64 b.num, .int .i64 b.at_])).run Tryz.prog w = .ok (.bool (decide (a = b))) w := by
  rw [run_eql_struct, equalIn37]; rfl
theorem neq37 (w : World) (a b : Tok) : (binOp .neq 41 (.agg #[.int .i64 a.kind, S a.text, .int .i64 a.num, .int .i64 a.at_]) (.agg #[.int .i64 b.kind, S b.text, .int .i64 b.num, .int .i64 b.at_])).run Tryz.prog w = .ok (.bool (!decide (a = b))) w := by
  rw [run_neq_struct, equalIn37]; rfl
theorem guard37n (w : World) (op : BinOp) (x y : Operand) (xs ys : Array Value) : (eqGuard op 41 x y (.agg xs) (.agg ys)).run Tryz.prog w = .ok () w := run_eqGuard_agg w op 41 x y xs ys guard37


theorem take_succ_same {a b : List Tok} {k : Nat} {t u : Tok} (h : a.take k = b.take k) (ha : a[k]? = some t) (hb : b[k]? = some u) (e : t = u) : a.take (k + 1) = b.take (k + 1) := by
  rw [List.take_add_one, List.take_add_one, h, ha, hb, e]

/-- what is owned is a row -/
theorem TokAt.of_cells {w : World} {g : Nat} {ts : List Tok} (h : ∀ j u, (tokCells ts)[j]? = some u → w.cell? ⟨g, 0 + j, none⟩ = some u) : TokAt w g 0 ts := by
  have key : ∀ i t, ts[i]? = some t → ∀ o u, (tokC t)[o]? = some u → w.cell? ⟨g, 0 + i * 4 + o, none⟩ = some u := by
    intro i t ht o u hu
    have hc := h (i * 4 + o) u
    rw [show 0 + i * 4 + o = 0 + (i * 4 + o) by omega]
    apply hc
    clear h hc
    induction ts generalizing i with
    | nil => simp at ht
    | cons x ts ih =>
      have ho : o < 4 := by
        rcases Nat.lt_or_ge o 4 with h | h
        · exact h
        · rw [List.getElem?_eq_none (by simp [tokC]; omega)] at hu; cases hu
      cases i with
      | zero =>
        simp only [List.getElem?_cons_zero, Option.some.injEq] at ht
        subst ht
        show (tokC x ++ tokCells ts)[0 * 4 + o]? = some u
        rw [List.getElem?_append_left (by simp [tokC]; omega), Nat.zero_mul, Nat.zero_add]; exact hu
      | succ i =>
        have := ih i (by simpa using ht)
        show (tokC x ++ tokCells ts)[(i + 1) * 4 + o]? = some u
        rw [List.getElem?_append_right (by simp [tokC]; omega), ← this]
        congr 1
        simp [tokC]; omega
  exact ⟨fun i t ht => key i t ht 0 _ rfl, fun i t ht => key i t ht 1 _ rfl, fun i t ht => key i t ht 2 _ rfl, fun i t ht => key i t ht 3 _ rfl⟩

theorem TokAt.of_own {w : World} {base g n cap : Nat} {ts : List Tok} (h : w.ownsRow base 41 4 (.slice (some ⟨g, 0, none⟩) n cap) n (tokCells ts)) : TokAt w g 0 ts :=
  .of_cells fun j u hu => by have := h.cells (g := g) rfl j u hu; rwa [Addr.add_lit] at this

theorem TokRow.of_own {w : World} {base g cap : Nat} {ts : List Tok} (h : w.ownsRow base 41 4 (.slice (some ⟨g, 0, none⟩) ts.length cap) ts.length (tokCells ts)) : TokRow w (.slice (some ⟨g, 0, none⟩) ts.length cap) ts :=
  ⟨_, cap, g, 0, rfl, fun _ => rfl, .of_own h⟩

theorem TokRow.nil (w : World) : TokRow w (.slice none 0 0) [] := ⟨none, 0, 0, 0, rfl, fun h => by simp at h, fun i t h => by simp at h, fun i t h => by simp at h, fun i t h => by simp at h, fun i t h => by simp at h⟩

end Go.Proofs.YteokdknaadckbaaGreatDoor.Lx
namespace Go.Proofs.YteokdknaadckbaaGreatDoor.Lx
open Go.RowKit

def isNameP (l : List UInt8) : Bool := decide (0 < l.length) && (decide (l.length ≤ 32) && (letB (l.getD 0 0) && (l.all runB && !isWordP l)))

theorem all_runEnd (l : List UInt8) : (l.all runB) = decide (runEnd l 0 = l.length) := by
  rw [Bool.eq_iff_iff, decide_eq_true_iff]
  constructor
  · intro h
    have e : runEnd l 0 = runEnd l l.length := runEnd_to (Nat.zero_le _) fun j _ hj => List.all_eq_true.1 h _ (getD_mem hj)
    rw [e, runEnd_stop (by rw [getD_ge (Nat.le_refl _)]; decide)]
  · intro h
    refine List.all_eq_true.2 fun c hc => ?_
    obtain ⟨j, hj, rfl⟩ := List.getElem_of_mem hc
    rw [← getD_lt hj]
    exact runEnd_run (Nat.zero_le j) (by omega)

set_option maxHeartbeats 1000000 in
theorem isName_any (l : List UInt8) (w : World) (hl : (l.length : Int) ≤ 9223372036854775807) : Calls Tryz.prog 96 #[S l] w fun e w' => e = .returned (.bool (isNameP l)) ∧ w' = w := by
  obtain ⟨R, hR⟩ : ∃ R, isNameP l = R := ⟨_, rfl⟩
  rw [hR]
  unfold isNameP at hR
  by_cases h0 : l.length = 0
  · rw [show decide (0 < l.length) = false from decide_eq_false (by omega), Bool.false_and] at hR
    subst hR
    obtain rfl : l = [] := List.length_eq_zero_iff.1 h0
    clear h0
    go_enter Tryz.func96, Tryz.ntmps96
    go_wp2
    go_ret
    exact ⟨rfl, rfl⟩
  · have hn0 : ((l.length : Int) == 0) = false := beq_eq_false_iff_ne.2 (by omega)
    have hlt0 : 0 < l.length := by omega
    have h0' : (0 : Int) < l.length := by omega
    rw [decide_eq_true hlt0, Bool.true_and] at hR
    by_cases h32 : l.length ≤ 32
    · rw [decide_eq_true h32, Bool.true_and] at hR
      have h32' : decide ((32 : Int) < l.length) = false := decide_eq_false (by omega)
      have hc0 : ({ data := l.toArray } : ByteArray)[0]'hlt0 = l.getD 0 0 := (getD_lt hlt0).symm
      have H1 : Hid (∀ w, Calls Tryz.prog 92 #[.int .u8 ((l.getD 0 0).toNat : Int)] w fun e w' => e = .returned (.bool (letB (l.getD 0 0))) ∧ w' = w) := fun w => isLetter_any _ w
      have HW : Hid (∀ w, Calls Tryz.prog 95 #[S l] w fun e w' => e = .returned (.bool (isWordP l)) ∧ w' = w) := fun w => isWord_any l w
      generalize letB (l.getD 0 0) = b at *
      generalize l.getD 0 0 = c at *
      cases b
      · rw [Bool.false_and] at hR
        subst hR
        go_enter Tryz.func96, Tryz.ntmps96
        go_wp2_with (go_at_call 92; refine (H1.out _).mono ?_; rintro e w' ⟨rfl, rfl⟩)
        go_ret
        exact ⟨rfl, rfl⟩
      · rw [Bool.true_and] at hR
        have HR : Hid ((l.all runB && !isWordP l) = R) := hR
        clear hR h0
        go_enter Tryz.func96, Tryz.ntmps96
        go_wp2_with (go_at_call 92; refine (H1.out _).mono ?_; rintro e w' ⟨rfl, rfl⟩)
        go_loop [20] (fun i => ∃ k : Nat, i = .int .i64 k ∧ k ≤ l.length ∧ Hid (∀ j, j < k → runB (l.getD j 0) = true)) (fun i => l.length - (intOf i).toNat)
        case atStart => exact ⟨0, rfl, Nat.zero_le _, fun j h2 => by omega⟩
        case round =>
          obtain ⟨k, rfl, hk, HJ⟩ := hrel
          by_cases hlt : k < l.length
          · have hk' : (k : Int) < l.length := by omega
            have hcs : ({ data := l.toArray } : ByteArray)[k]'hlt = l.getD k 0 := (getD_lt hlt).symm
            have HC : Hid (∀ w, Calls Tryz.prog 90 #[.int .u8 ((l.getD k 0).toNat : Int)] w fun e w' => e = .returned (.bool (runB (l.getD k 0))) ∧ w' = w) := fun w => isRun_any _ w
            have HV : Hid (runB (l.getD k 0) = runB (l.getD k 0)) := rfl
            cases hv : runB (l.getD k 0)
            · have HF : Hid (R = false) := by
                show _ = _
                rw [← HR.out]
                cases ha : l.all runB
                · rfl
                · have := List.all_eq_true.1 ha _ (getD_mem hlt)
                  rw [hv] at this; cases this
              rw [hv] at HC
              clear hv HV
              generalize l.getD k 0 = d at *
              go_wp2_with (go_at_call 90; refine (HC.out _).mono ?_; rintro e w' ⟨rfl, rfl⟩)
              go_ret
              exact ⟨by rw [HF.out]; rfl, rfl⟩
            · have HJ2 : Hid (∀ j, j < k + 1 → runB (l.getD j 0) = true) := fun j h2 => by
                rcases Nat.lt_or_ge j k with h3 | h3
                · exact HJ.out j h3
                · obtain rfl : j = k := by omega
                  exact hv
              rw [hv] at HC
              clear hv HV
              generalize l.getD k 0 = d at *
              go_wp2_with (go_at_call 90; refine (HC.out _).mono ?_; rintro e w' ⟨rfl, rfl⟩)
              go_round
              case rel => exact ⟨k + 1, by go_num, by omega, HJ2.out⟩
              case measure => simp [intOf]; omega
          · obtain rfl : k = l.length := by omega
            have HF : Hid (R = !isWordP l) := by
              show _ = _
              rw [← HR.out, List.all_eq_true.2 fun c hc => ?_]
              · rfl
              · obtain ⟨j, hj, rfl⟩ := List.getElem_of_mem hc
                rw [← getD_lt hj]; exact HJ.out j hj
            generalize isWordP l = b at *
            go_wp2_with (go_at_call 95; refine (HW.out _).mono ?_; rintro e w' ⟨rfl, rfl⟩)
            go_ret
            exact ⟨by rw [HF.out]; rfl, rfl⟩
    · rw [show decide (l.length ≤ 32) = false from decide_eq_false h32, Bool.false_and] at hR
      subst hR
      have h32' : decide ((32 : Int) < l.length) = true := decide_eq_true (by omega)
      go_enter Tryz.func96, Tryz.ntmps96
      go_wp2
      go_ret
      exact ⟨rfl, rfl⟩

theorem slice_str (w : World) (s : ByteArray) (l h : Int) (h0 : 0 ≤ l) (h1 : l ≤ h) (h2 : h ≤ (s.size : Int)) :
    (Instr.slice 9 (.string s) (some (.int .i64 l)) (some (.int .i64 h)) none).run Tryz.prog w = .ok (.string (s.extract l.toNat h.toNat)) w := by
  have hu := Tryz.underlying9
  simp [go_sem, h0, h1, h2]

theorem slice_words (w : World) (k n : Nat) (h : k + (n + 2) ≤ 135) :
    (Instr.slice 9 (.string ⟨#[32, 98, 111, 111, 108, 32, 99, 97, 115, 101, 32, 99, 111, 110, 115, 116, 32, 100, 101, 102, 97, 117, 108, 116, 32, 100, 111, 117, 98, 108, 101, 32, 101, 110, 117, 109, 32, 102, 108, 111, 97, 116, 32, 104, 121, 112, 101, 114, 32, 105, 110, 116, 32, 111, 112, 97, 113, 117, 101, 32, 112, 114, 111, 103, 114, 97, 109, 32, 113, 117, 97, 100, 114, 117, 112, 108, 101, 32, 115, 116, 114, 105, 110, 103, 32, 115, 116, 114, 117, 99, 116, 32, 115, 119, 105, 116, 99, 104, 32, 116, 121, 112, 101, 100, 101, 102, 32, 117, 110, 105, 111, 110, 32, 117, 110, 115, 105, 103, 110, 101, 100, 32, 118, 101, 114, 115, 105, 111, 110, 32, 118, 111, 105, 100, 32]⟩) (some (.int .i64 k)) (some (.int .i64 ((k : Int) + ((n : Int) + 2)))) none).run Tryz.prog w = .ok (S (sub WordsL k (k + (n + 2)))) w := by
  have e := slice_str w (⟨WordsL.toArray⟩ : ByteArray) (k : Int) ((k : Int) + ((n : Int) + 2)) (by omega) (by omega) (by show (k : Int) + ((n : Int) + 2) ≤ ((WordsL.length : Nat) : Int); rw [words_len]; omega)
  rw [S_extract, show ((k : Int) + ((n : Int) + 2)).toNat = k + (n + 2) by omega, Int.toNat_natCast] at e
  exact e

theorem cat_list (l : List UInt8) : (({ data := #[32] } : ByteArray) ++ { data := l.toArray } ++ { data := #[32] }).toList = 32 :: (l ++ [32]) := by
  rw [ByteArray.toList_eq]; simp

theorem word_not {l : List UInt8} (h : ¬ (0 < l.length ∧ runEnd l 0 = l.length)) : isWordP l = false := by
  cases hw : isWordP l
  · rfl
  · obtain ⟨_, _, h1, h2⟩ := words_all l (List.contains_iff_mem.1 hw)
    exfalso
    refine h ⟨?_, ?_⟩
    · cases l with
      | nil => exact absurd rfl h1
      | cons => simp
    · rw [all_runEnd] at h2; exact of_decide_eq_true h2

end Go.Proofs.YteokdknaadckbaaGreatDoor.Lx
namespace Go.Proofs.YteokdknaadckbaaGreatDoor
open Go.RowKit Go.Lib

theorem info5_ex : ∃ i : TypeInfo, Tryz.prog.info? 5 = some i ∧ i.zero = some (.int .u8 0) ∧ i.size = 1 ∧ i.bytes = 1 :=
  ⟨(Tryz.prog.info? 5).getD default, by kernel_rfl, by kernel_rfl, by kernel_rfl, by kernel_rfl⟩
theorem append_at (base : Nat) (v : Value) (n : Nat) (xs : List Value) (s : ByteArray) (w : World) (ty : TypeId) (hown : w.ownsRow base 5 1 v n xs) (hb : n + s.size ≤ 140737488355328) (hbase : base ≤ w.heap.size) :
    ∃ v' w', (Builtin.append_ #[66, 9] ty #[v, .string s]).run Tryz.prog w = .ok v' w' ∧ w'.ownsRow base 5 1 v' (n + s.size) (xs ++ strCells s) ∧ w.grownBy w' v.ownBlock ∧ (v'.ownBlock = v.ownBlock ∨ v'.ownBlock = some w.heap.size) := by
  have h63 : n + s.size ≤ maxLen := Nat.le_trans hb (by decide)
  obtain ⟨info5, info5_is, info5_zero, info5_size, info5_bytes⟩ := info5_ex
  obtain ⟨v', w', hr, h1, h2, h3⟩ := run_append_own_string (P := Tryz.prog) w base 66 9 ty 5 info5 Tryz.underlying66 Tryz.underlying9 info5_is info5_zero info5_size info5_bytes v n xs hown s h63 hb hbase
  refine ⟨v', w', hr, h1, h2, ?_⟩
  have hxl : xs.length = n := by simpa using hown.1
  rcases hown.2 with ⟨rfl, rfl⟩ | ⟨g, cap, cur, rfl, hbg, hg, hnc, hcm, hcs, htake⟩
  · by_cases hm : s.size = 0
    · left
      rw [h3.2 ⟨rfl, hm⟩]
    · right
      have hr2 := run_append_nil_string (P := Tryz.prog) w 66 9 ty 5 info5 (.int .u8 0) Tryz.underlying66 Tryz.underlying9 info5_is info5_zero s (by omega) (by omega) (by rw [info5_bytes]; omega)
      rw [hr2] at hr
      cases hr
      rfl
  · by_cases hroom : n + s.size ≤ cap
    · left
      have hr2 := run_append_room_string (P := Tryz.prog) w 66 9 ty 5 info5 Tryz.underlying66 Tryz.underlying9 info5_is info5_size g n cap cur hg s hroom (by simp at hcs; omega)
      rw [hr2] at hr
      cases hr
      rfl
    · right
      have holds : ∀ j u, xs[j]? = some u → w.cell? ((⟨g, 0, none⟩ : Addr).add j) = some u := hown.cells (g := g) rfl
      have hr2 := run_append_grow_string (P := Tryz.prog) w 66 9 ty 5 info5 (.int .u8 0) Tryz.underlying66 Tryz.underlying9 info5_is info5_zero ⟨g, 0, none⟩ n cap xs (by rw [info5_size]; simpa using hxl) holds s (by omega) (by omega) (by rw [info5_bytes]; exact growslice_fits (by omega) (by omega))
      rw [hr2] at hr
      cases hr
      rfl

/-- The operation, for a walk. -/
theorem wpList_append_at {ops : Array Oper} {rest : List Oper} {o : Oper} {a : Act} {Q : Exit → Act → World → Prop} {w : World} (hgd : o.guard = none) (sl x : Operand)
    (ho : o.op = .call { callee := .builtin .append, args := #[sl, x], argTypes := #[66, 9] })
    (base : Nat) (v : Value) (n : Nat) (xs : List Value) (hs : a.eval sl = v) (hown : w.ownsRow base 5 1 v n xs) (s : ByteArray) (hx : a.eval x = .string s)
    (hb : n + s.size ≤ 140737488355328) (hbase : base ≤ w.heap.size)
    (h : ∀ v' w', w'.ownsRow base 5 1 v' (n + s.size) (xs ++ strCells s) → w.grownBy w' v.ownBlock → (v'.ownBlock = v.ownBlock ∨ v'.ownBlock = some w.heap.size) → wpList Tryz.prog ops Q rest (a.put o.dst v') w') : wpList Tryz.prog ops Q (o :: rest) a w := by
  refine wpList_plain hgd fun K hK => ?_
  obtain ⟨v', w', hr, h2, h3, h4⟩ := append_at base v n xs s w o.type hown hb hbase
  unfold Oper.wp execOp
  simp only [ho, resolve, invoke, builtin, Sem.run_bind, Sem.run_pure, Result.andThen_ok, List.map_toArray, List.map_cons, List.map_nil, hs, hx, hr]
  exact hK _ _ (h v' w' h2 h3 h4)



theorem bld50 (w : World) : (Instr.build 50 #[(0, .int .i64 43)]).run Tryz.prog w = .ok (.agg #[.int .i64 43, .int .i64 0]) w := by kernel_rfl
def treeFault : Ending := .panicked [{ v := .iface 50 (.agg #[.int .i64 43, .int .i64 0]), recovered := false }]
theorem must_true (w : World) : Calls Tryz.prog 58 #[.bool true] w fun e w' => e = .returned (.tuple #[]) ∧ w' = w := by
  go_enter Tryz.func58, Tryz.ntmps58
  go_wp2
  first | go_end0 | refine bodyPost_ret (results_none rfl _ _ _) rfl ?_
  exact ⟨rfl, rfl⟩
theorem must_false (w : World) : Calls Tryz.prog 58 #[.bool false] w fun e w' => e = treeFault ∧ w' = w := by
  have q := bld50
  go_enter Tryz.func58, Tryz.ntmps58
  go_wp2
  exact ⟨rfl, rfl, rfl⟩
theorem isRun_print (c : Int) (w : World) : Calls Tryz.prog 102 #[.int .u8 c] w fun e w' => e = .returned (.bool (runP c)) ∧ w' = w := by
  obtain ⟨R, hR⟩ : ∃ R, runP c = R := ⟨_, rfl⟩
  rw [hR]
  have HR : Hid (runP c = R) := hR
  clear hR
  rcases (show c < 48 ∨ (48 ≤ c ∧ c ≤ 57) ∨ (57 < c ∧ c < 65) ∨ (65 ≤ c ∧ c ≤ 90) ∨ (90 < c ∧ c < 95) ∨ c = 95 ∨ c = 96 ∨ (97 ≤ c ∧ c ≤ 122) ∨ 122 < c by omega) with h | ⟨h, h'⟩ | ⟨h, h'⟩ | ⟨h, h'⟩ | ⟨h, h'⟩ | h | h | ⟨h, h'⟩ | h
  all_goals (
    go_enter Tryz.func102, Tryz.ntmps102
    go_wp2
    go_ret
    rw [← HR.out]
    unfold runP letterP digitP
    refine ⟨congrArg Ending.returned (congrArg Value.bool ?_), rfl⟩
    rw [Bool.eq_iff_iff]
    simp
    omega)
/-- the printer: what it has laid down, how many bodies are open -/
structure PR (w : World) (p : Nat) (txt : List UInt8) (d : Int) (v : Value) : Prop where
  c0 : w.cell? ⟨p, 0, none⟩ = some v
  c1 : w.cell? ⟨p, 1, none⟩ = some (.int .i64 d)
  f0 : w.frozen? ⟨p, 0, none⟩ = false
  f1 : w.frozen? ⟨p, 1, none⟩ = false
  own : w.ownsRow (p + 1) 5 1 v txt.length (txt.map fun b => Value.int .u8 b.toNat)
theorem PR.lt {w : World} {p : Nat} {txt : List UInt8} {d : Int} {v : Value} (h : PR w p txt d v) : p < w.heap.size := cell_lt h.c0
theorem PR.below {w w' : World} {p : Nat} {txt : List UInt8} {d : Int} {v : Value} (h : PR w p txt d v) (hB : Below w.heap.size w w') : PR w' p txt d v :=
  ⟨(cells_same (hB.block p h.lt) 0).1.trans h.c0, (cells_same (hB.block p h.lt) 1).1.trans h.c1, (cells_same (hB.block p h.lt) 0).2.trans h.f0, (cells_same (hB.block p h.lt) 1).2.trans h.f1, owns_block h.own (fun g _ hl => hB.block g hl)⟩
/-- what is laid down by tokens, or that it is too long -/
def layP : List (List UInt8) → List UInt8 → Option (List UInt8)
  | [], txt => some txt
  | t :: ts, txt =>
    if ((if (decide (0 < txt.length) && runB (txt.getLastD 0) && runB (t.getD 0 0)) then txt ++ [32] else txt) ++ t).length ≤ 16000 then layP ts ((if (decide (0 < txt.length) && runB (txt.getLastD 0) && runB (t.getD 0 0)) then txt ++ [32] else txt) ++ t) else none
end Go.Proofs.YteokdknaadckbaaGreatDoor
namespace Go.Proofs.YteokdknaadckbaaGreatDoor
open Go.RowKit Go.Lib

def bts (l : List UInt8) : List Value := l.map fun b => Value.int .u8 b.toNat
theorem bts_str (l : List UInt8) : strCells ⟨l.toArray⟩ = bts l := rfl
theorem bts_app (a b : List UInt8) : bts (a ++ b) = bts a ++ bts b := by simp [bts]
/-- behind an append to the printer's text, stored -/
theorem PR.laid {w u w2 : World} {p : Nat} {txt more : List UInt8} {d : Int} {v v2 : Value} (h : PR w p txt d v) (hB : Below w.heap.size w u) (hg : u.grownBy w2 v.ownBlock) (ho : w2.ownsRow (p + 1) 5 1 v2 (txt ++ more).length (bts (txt ++ more))) (hat : v2.ownBlock = v.ownBlock ∨ v2.ownBlock = some u.heap.size) :
    (w2.cell? ⟨p, 0, none⟩ = some v ∧ w2.frozen? ⟨p, 0, none⟩ = false) ∧ PR (w2.setCell ⟨p, 0, none⟩ v2) p (txt ++ more) d v2 ∧ Lx.Kept p v v2 w (w2.setCell ⟨p, 0, none⟩ v2) := by
  have hu := h.below hB
  have hne : some p ≠ v.ownBlock := fun e => by have := (hu.own.lt p e.symm).1; omega
  have hne2 : v2.ownBlock ≠ some p := fun e => by have := (ho.lt p e).1; omega
  have hb : w2.heap[p]? = u.heap[p]? := hg.block p hu.lt hne
  have hsc : ∀ (k : Nat), k ≠ p → (w2.setCell ⟨p, 0, none⟩ v2).heap[k]? = w2.heap[k]? := fun k hk => Below.heap_setCell _ _ _ k hk
  have hgs : w2.grownBy (w2.setCell ⟨p, 0, none⟩ v2) (some p) := ⟨rfl, rfl, rfl, by simp, fun k _ hk => hsc k (fun e => hk (by rw [e]))⟩
  refine ⟨⟨(cells_same hb 0).1.trans hu.c0, (cells_same hb 0).2.trans hu.f0⟩, ⟨?_, ?_, ?_, ?_, ?_⟩, ⟨?_, ?_, ?_, ?_, ?_, ?_⟩⟩
  · exact World.cell?_setCell_same _ _ _ (by rw [(cells_same hb 0).1]; exact hu.c0)
  · rw [World.cell?_setCell_other _ _ _ _ (by simp), (cells_same hb 1).1]; exact hu.c1
  · rw [World.frozen?_setCell, (cells_same hb 0).2]; exact hu.f0
  · rw [World.frozen?_setCell, (cells_same hb 1).2]; exact hu.f1
  · exact ho.kept hgs (.inr hne2)
  · exact hg.os.trans hB.os
  · exact hg.tape.trans hB.tape
  · exact hg.output.trans hB.output
  · exact Nat.le_trans hB.size (Nat.le_trans hg.size hgs.size)
  · intro b hb1 hb2 hb3
    rw [hsc b hb2, hg.block b (Nat.lt_of_lt_of_le hb1 hB.size) hb3]
    exact hB.block b hb1
  · rcases hat with e | e
    · exact .inl e
    · exact .inr ⟨_, hB.size, e⟩
theorem idx0 (t : List UInt8) (h : t ≠ []) (w : World) : (Instr.index 9 (.string ⟨t.toArray⟩) (.int .i64 0)).run Tryz.prog w = .ok (.int .u8 (t.getD 0 0).toNat) w := by
  cases t with
  | nil => exact absurd rfl h
  | cons x r => kernel_rfl
def blankP (txt t : List UInt8) : Bool := decide (0 < txt.length) && runB (txt.getLastD 0) && runB (t.getD 0 0)
def oneP (txt t : List UInt8) : List UInt8 := (if blankP txt t then txt ++ [32] else txt) ++ t
theorem layP_cons (t : List UInt8) (ts : List (List UInt8)) (txt : List UInt8) : layP (t :: ts) txt = if (oneP txt t).length ≤ 16000 then layP ts (oneP txt t) else none := by rw [layP]; rfl

set_option maxHeartbeats 4000000 in
set_option maxRecDepth 4000 in
theorem lay_any (p b c : Nat) (ts : List (List UInt8)) (hts : ∀ t ∈ ts, t ≠ [] ∧ t.length ≤ 64) (hn : ts.length ≤ 3) (txt0 : List UInt8) (d : Int) (v0 : Value) (w : World) (h : PR w p txt0 d v0) (hx : txt0.length ≤ 16000) (hb : b ≠ p) (hbl : b < w.heap.size) (hbv : some b ≠ v0.ownBlock)
    (hw : ∀ j (hj : j < ts.length), w.cell? ⟨b, j, none⟩ = some (.string ⟨(ts[j]).toArray⟩)) :
    Calls Tryz.prog 61 #[.pointer (some ⟨p, 0, none⟩), .slice (some ⟨b, 0, none⟩) ts.length c] w fun e w' => ∃ v', Lx.Kept p v0 v' w w' ∧ ((∃ x, layP ts txt0 = some x ∧ e = .returned (.tuple #[]) ∧ PR w' p x d v') ∨ (layP ts txt0 = none ∧ e = treeFault)) := by
  obtain ⟨R, hR⟩ : ∃ R, layP ts txt0 = R := ⟨_, rfl⟩
  rw [hR]
  have HR : Hid (layP (ts.drop 0) txt0 = R) := hR
  have HTS : Hid (∀ t ∈ ts, t ≠ [] ∧ t.length ≤ 64) := hts
  have H : Hid (PR w p txt0 d v0 ∧ txt0.length ≤ 16000) := ⟨h, hx⟩
  have HB : Hid (b ≠ p ∧ b < w.heap.size ∧ some b ≠ v0.ownBlock) := ⟨hb, hbl, hbv⟩
  have HW : Hid (∀ j (hj : j < ts.length), w.cell? ⟨b, j, none⟩ = some (.string ⟨(ts[j]).toArray⟩)) := hw
  obtain ⟨TN, hTN⟩ : ∃ x, ts.length = x := ⟨_, rfl⟩
  have HTN : Hid (ts.length = TN ∧ TN ≤ 3) := ⟨hTN, by omega⟩
  rw [hTN]
  clear hR hts h hx hb hbl hbv hw hn hTN
  go_enter Tryz.func61, Tryz.ntmps61
  go_wp2
  go_loopw [9] (fun i wr => ∃ (k : Nat) (txt : List UInt8) (v : Value), i = .int .i64 k ∧ k ≤ TN ∧ Hid (PR wr p txt d v ∧ txt.length ≤ 16000) ∧ Hid (Lx.Kept p v0 v w wr) ∧ Hid (layP (ts.drop k) txt = R)) (fun i _ => TN - (intOf i).toNat)
  case atStart => exact ⟨0, txt0, v0, rfl, by omega, H, Lx.Kept.refl p v0 w, HR⟩
  case round =>
    obtain ⟨k, txt, v, rfl, hk, HPR, HK, HL⟩ := hrel
    by_cases hlt : k < TN
    · have hlt' : (k : Int) < TN := by omega
      have hk3 : (k : Int) ≤ 3 := by have := HTN.out; omega
      have hkl : k < ts.length := by have := HTN.out; omega
      obtain ⟨t, ht⟩ : ∃ t, ts[k] = t := ⟨_, rfl⟩
      have hc : wr.cell? ⟨b, k, none⟩ = some (.string ⟨t.toArray⟩) := by
        rw [(cells_same (HK.out.block b HB.out.2.1 HB.out.1 HB.out.2.2) k).1, HW.out k hkl, ht]
      have HTT : Hid (t ≠ [] ∧ t.length ≤ 64) := by show _ ∧ _; rw [← ht]; exact HTS.out _ (List.getElem_mem hkl)
      have HD : Hid (ts.drop k = t :: ts.drop (k + 1)) := by show _ = _; rw [List.drop_eq_getElem_cons hkl, ht]
      have HST : Hid (R = if (oneP txt t).length ≤ 16000 then layP (ts.drop (k + 1)) (oneP txt t) else none) := by
        show _ = _
        rw [← HL.out, HD.out, layP_cons]
      have HKL : Hid (k < TN) := hlt
      clear ht hkl
      obtain ⟨ov, cv, hvs⟩ := Lx.own_form HPR.out.1.own
      obtain ⟨n, hn⟩ : ∃ n, txt.length = n := ⟨_, rfl⟩
      rw [hn] at hvs
      subst hvs
      have hn16 : n ≤ 16000 := hn ▸ HPR.out.2
      have HPG : Hid (PR wr p txt d (.slice ov n cv)) := HPR.out.1
      have c0 := HPG.out.c0
      have f0 := HPG.out.f0
      have HOWN : Hid (wr.ownsRow (p + 1) 5 1 (.slice ov n cv) n (bts txt)) := by
        have := HPG.out.own
        rw [hn] at this
        exact this
      have HNG : Hid (txt.length = n ∧ n ≤ 16001) := ⟨hn, by omega⟩
      clear hn
      by_cases hn0 : n = 0
      · have HONE : Hid (oneP txt t = txt ++ t) := by
          show _ = _
          unfold oneP blankP
          rw [if_neg]
          have := HNG.out.1
          simp
          intro h
          omega
        have hgt : ¬ (0 : Int) < n := by omega
        have hgd : decide ((0 : Int) < n) = false := by simp; omega
        clear hn0
        by_cases hfit : n + t.length ≤ 16000
        · have HFIT : Hid (n + t.length ≤ 16000) := hfit
          have hsz : (⟨t.toArray⟩ : ByteArray).size = t.length := rfl
          have hfi : (n : Int) + (t.length : Int) ≤ 16000 := by omega
          have hfd : decide ((n : Int) + (t.length : Int) ≤ 16000) = true := by simp; omega
          clear hfit
          go_wp2_with (first | (at_builtin; refine wpList_append_at rfl _ _ rfl (p + 1) (.slice ov n cv) n (bts txt) rfl HOWN.out ⟨t.toArray⟩ rfl (by have h1 := HTT.out.2; have h2 := HNG.out.2; have e : (⟨t.toArray⟩ : ByteArray).size = t.length := rfl; omega) (by have := HPG.out.lt; omega) ?_; intro v2 w2 ho hg hat; obtain ⟨o2, c2, rfl⟩ := Lx.own_form ho; have hlaid := PR.laid (more := t) HPG.out (Below.refl _ _) hg (by rw [bts_app, List.length_append, HNG.out.1]; exact ho) hat; have q2 := hlaid.1.1; have f2 := hlaid.1.2; have HPN : Hid (PR (w2.setCell ⟨p, 0, none⟩ (.slice o2 (n + (⟨t.toArray⟩ : ByteArray).size) c2)) p (txt ++ t) d (.slice o2 (n + (⟨t.toArray⟩ : ByteArray).size) c2) ∧ Lx.Kept p (.slice ov n cv) (.slice o2 (n + (⟨t.toArray⟩ : ByteArray).size) c2) wr (w2.setCell ⟨p, 0, none⟩ (.slice o2 (n + (⟨t.toArray⟩ : ByteArray).size) c2))) := hlaid.2; clear ho hg hat hlaid))
          refine (must_true _).mono ?_
          rintro e w8 ⟨rfl, rfl⟩
          have HRX : Hid (layP (ts.drop (k + 1)) (txt ++ t) = R) := by
            show _ = _
            rw [HST.out, HONE.out, if_pos (by rw [List.length_append, HNG.out.1]; exact HFIT.out)]
          have HPX : Hid (PR (w2.setCell ⟨p, 0, none⟩ (.slice o2 (n + t.length) c2)) p (txt ++ t) d (.slice o2 (n + t.length) c2) ∧ (txt ++ t).length ≤ 16000) := ⟨HPN.out.1, by rw [List.length_append, HNG.out.1]; exact HFIT.out⟩
          have HKX : Hid (Lx.Kept p v0 (.slice o2 (n + t.length) c2) w (w2.setCell ⟨p, 0, none⟩ (.slice o2 (n + t.length) c2))) := HK.out.trans HPN.out.2
          go_wp2
          go_roundw
          case rel => exact ⟨k + 1, txt ++ t, (.slice o2 (n + t.length) c2), by go_num, HKL.out, HPX, HKX, HRX⟩
          case measure => simp [intOf]; omega
        · have HFIT : Hid (¬ n + t.length ≤ 16000) := hfit
          have hsz : (⟨t.toArray⟩ : ByteArray).size = t.length := rfl
          have hfi : ¬ (n : Int) + (t.length : Int) ≤ 16000 := by omega
          have hfd : decide ((n : Int) + (t.length : Int) ≤ 16000) = false := by simp; omega
          clear hfit
          go_wp2_with (first | (at_builtin; refine wpList_append_at rfl _ _ rfl (p + 1) (.slice ov n cv) n (bts txt) rfl HOWN.out ⟨t.toArray⟩ rfl (by have h1 := HTT.out.2; have h2 := HNG.out.2; have e : (⟨t.toArray⟩ : ByteArray).size = t.length := rfl; omega) (by have := HPG.out.lt; omega) ?_; intro v2 w2 ho hg hat; obtain ⟨o2, c2, rfl⟩ := Lx.own_form ho; have hlaid := PR.laid (more := t) HPG.out (Below.refl _ _) hg (by rw [bts_app, List.length_append, HNG.out.1]; exact ho) hat; have q2 := hlaid.1.1; have f2 := hlaid.1.2; have HPN : Hid (PR (w2.setCell ⟨p, 0, none⟩ (.slice o2 (n + (⟨t.toArray⟩ : ByteArray).size) c2)) p (txt ++ t) d (.slice o2 (n + (⟨t.toArray⟩ : ByteArray).size) c2) ∧ Lx.Kept p (.slice ov n cv) (.slice o2 (n + (⟨t.toArray⟩ : ByteArray).size) c2) wr (w2.setCell ⟨p, 0, none⟩ (.slice o2 (n + (⟨t.toArray⟩ : ByteArray).size) c2))) := hlaid.2; clear ho hg hat hlaid))
          refine (must_false _).mono ?_
          rintro e w8 ⟨he, rfl⟩
          unfold treeFault at he
          subst he
          have HRX : Hid (R = none) := by
            show _ = _
            rw [HST.out, HONE.out, if_neg (by rw [List.length_append, HNG.out.1]; exact HFIT.out)]
          have HKX : Hid (Lx.Kept p v0 (.slice o2 (n + t.length) c2) w (w2.setCell ⟨p, 0, none⟩ (.slice o2 (n + t.length) c2))) := HK.out.trans HPN.out.2
          go_wp2
          exact ⟨rfl, (.slice o2 (n + t.length) c2), HKX.out, Or.inr ⟨HRX.out, rfl⟩⟩
      · obtain ⟨tx, lst, hcat⟩ : ∃ tx lst, txt = tx ++ [lst] := by
          rcases List.eq_nil_or_concat txt with h | ⟨a, b', h⟩
          · have := HNG.out.1
            rw [h] at this
            simp at this
            omega
          · exact ⟨a, b', by rw [h, List.concat_eq_append]⟩
        obtain ⟨m, hm⟩ : ∃ m, tx.length = m := ⟨_, rfl⟩
        have hnm : n = m + 1 := by rw [← HNG.out.1, hcat, List.length_append, hm]; rfl
        subst hnm
        obtain ⟨g, cap', hsl, _, _⟩ := HOWN.out.form (by omega)
        cases hsl
        have hl : wr.cell? ⟨g, m, none⟩ = some (.int .u8 lst.toNat) := by
          rw [HOWN.out.cellAt m (by omega), hcat, bts_app]
          unfold bts
          rw [List.getElem?_append_right (by simp [hm]), List.length_map, hm, Nat.sub_self]
          rfl
        have HLS : Hid (txt.getLastD 0 = lst) := by show _ = _; rw [hcat]; simp
        obtain ⟨ct, hct⟩ : ∃ x, t.getD 0 0 = x := ⟨_, rfl⟩
        have HCT : Hid (t.getD 0 0 = ct) := hct
        have hix : ∀ w, (Instr.index 9 (.string ⟨t.toArray⟩) (.int .i64 0)).run Tryz.prog w = .ok (.int .u8 ct.toNat) w := fun w => by rw [← hct]; exact idx0 t HTT.out.1 w
        clear hct
        have hgt : (0 : Int) < ((m + 1 : Nat) : Int) := by omega
        have hmb : (m : Int) ≤ 16000 := by omega
        clear hn0 hm hcat
        cases hlr : runB lst
        · have hrl : runP (lst.toNat : Int) = false := hlr
          have HONE : Hid (oneP txt t = txt ++ t) := by
            show _ = _
            unfold oneP blankP
            rw [HLS.out, hlr, if_neg (by simp)]
          clear hlr
          by_cases hfit : (m + 1) + t.length ≤ 16000
          · have HFIT : Hid ((m + 1) + t.length ≤ 16000) := hfit
            have hsz : (⟨t.toArray⟩ : ByteArray).size = t.length := rfl
            have hfi : ((m : Int) + 1) + (t.length : Int) ≤ 16000 := by omega
            have hfd : decide (((m : Int) + 1) + (t.length : Int) ≤ 16000) = true := by simp; omega
            clear hfit
            go_wp2_with (first | (at_builtin; refine wpList_append_at rfl _ _ rfl (p + 1) (.slice (some ⟨g, 0, none⟩) (m + 1) cv) (m + 1) (bts txt) rfl HOWN.out ⟨t.toArray⟩ rfl (by have h1 := HTT.out.2; have h2 := HNG.out.2; have e : (⟨t.toArray⟩ : ByteArray).size = t.length := rfl; omega) (by have := HPG.out.lt; omega) ?_; intro v2 w2 ho hg hat; obtain ⟨o2, c2, rfl⟩ := Lx.own_form ho; have hlaid := PR.laid (more := t) HPG.out (Below.refl _ _) hg (by rw [bts_app, List.length_append, HNG.out.1]; exact ho) hat; have q2 := hlaid.1.1; have f2 := hlaid.1.2; have HPN : Hid (PR (w2.setCell ⟨p, 0, none⟩ (.slice o2 ((m + 1) + (⟨t.toArray⟩ : ByteArray).size) c2)) p (txt ++ t) d (.slice o2 ((m + 1) + (⟨t.toArray⟩ : ByteArray).size) c2) ∧ Lx.Kept p (.slice (some ⟨g, 0, none⟩) (m + 1) cv) (.slice o2 ((m + 1) + (⟨t.toArray⟩ : ByteArray).size) c2) wr (w2.setCell ⟨p, 0, none⟩ (.slice o2 ((m + 1) + (⟨t.toArray⟩ : ByteArray).size) c2))) := hlaid.2; clear ho hg hat hlaid)| (go_at_call 102; refine (isRun_print _ _).mono ?_; rintro e wi ⟨rfl, hwi⟩; rw [hwi]; clear hwi wi))
            refine (must_true _).mono ?_
            rintro e w8 ⟨rfl, rfl⟩
            have HRX : Hid (layP (ts.drop (k + 1)) (txt ++ t) = R) := by
              show _ = _
              rw [HST.out, HONE.out, if_pos (by rw [List.length_append, HNG.out.1]; exact HFIT.out)]
            have HPX : Hid (PR (w2.setCell ⟨p, 0, none⟩ (.slice o2 ((m + 1) + t.length) c2)) p (txt ++ t) d (.slice o2 ((m + 1) + t.length) c2) ∧ (txt ++ t).length ≤ 16000) := ⟨HPN.out.1, by rw [List.length_append, HNG.out.1]; exact HFIT.out⟩
            have HKX : Hid (Lx.Kept p v0 (.slice o2 ((m + 1) + t.length) c2) w (w2.setCell ⟨p, 0, none⟩ (.slice o2 ((m + 1) + t.length) c2))) := HK.out.trans HPN.out.2
            go_wp2
            go_roundw
            case rel => exact ⟨k + 1, txt ++ t, (.slice o2 ((m + 1) + t.length) c2), by go_num, HKL.out, HPX, HKX, HRX⟩
            case measure => simp [intOf]; omega
          · have HFIT : Hid (¬ (m + 1) + t.length ≤ 16000) := hfit
            have hsz : (⟨t.toArray⟩ : ByteArray).size = t.length := rfl
            have hfi : ¬ ((m : Int) + 1) + (t.length : Int) ≤ 16000 := by omega
            have hfd : decide (((m : Int) + 1) + (t.length : Int) ≤ 16000) = false := by simp; omega
            clear hfit
            go_wp2_with (first | (at_builtin; refine wpList_append_at rfl _ _ rfl (p + 1) (.slice (some ⟨g, 0, none⟩) (m + 1) cv) (m + 1) (bts txt) rfl HOWN.out ⟨t.toArray⟩ rfl (by have h1 := HTT.out.2; have h2 := HNG.out.2; have e : (⟨t.toArray⟩ : ByteArray).size = t.length := rfl; omega) (by have := HPG.out.lt; omega) ?_; intro v2 w2 ho hg hat; obtain ⟨o2, c2, rfl⟩ := Lx.own_form ho; have hlaid := PR.laid (more := t) HPG.out (Below.refl _ _) hg (by rw [bts_app, List.length_append, HNG.out.1]; exact ho) hat; have q2 := hlaid.1.1; have f2 := hlaid.1.2; have HPN : Hid (PR (w2.setCell ⟨p, 0, none⟩ (.slice o2 ((m + 1) + (⟨t.toArray⟩ : ByteArray).size) c2)) p (txt ++ t) d (.slice o2 ((m + 1) + (⟨t.toArray⟩ : ByteArray).size) c2) ∧ Lx.Kept p (.slice (some ⟨g, 0, none⟩) (m + 1) cv) (.slice o2 ((m + 1) + (⟨t.toArray⟩ : ByteArray).size) c2) wr (w2.setCell ⟨p, 0, none⟩ (.slice o2 ((m + 1) + (⟨t.toArray⟩ : ByteArray).size) c2))) := hlaid.2; clear ho hg hat hlaid)| (go_at_call 102; refine (isRun_print _ _).mono ?_; rintro e wi ⟨rfl, hwi⟩; rw [hwi]; clear hwi wi))
            refine (must_false _).mono ?_
            rintro e w8 ⟨he, rfl⟩
            unfold treeFault at he
            subst he
            have HRX : Hid (R = none) := by
              show _ = _
              rw [HST.out, HONE.out, if_neg (by rw [List.length_append, HNG.out.1]; exact HFIT.out)]
            have HKX : Hid (Lx.Kept p v0 (.slice o2 ((m + 1) + t.length) c2) w (w2.setCell ⟨p, 0, none⟩ (.slice o2 ((m + 1) + t.length) c2))) := HK.out.trans HPN.out.2
            go_wp2
            exact ⟨rfl, (.slice o2 ((m + 1) + t.length) c2), HKX.out, Or.inr ⟨HRX.out, rfl⟩⟩
        · have hrl : runP (lst.toNat : Int) = true := hlr
          cases htr : runB ct
          · have hrt : runP (ct.toNat : Int) = false := htr
            have HONE : Hid (oneP txt t = txt ++ t) := by
              show _ = _
              unfold oneP blankP
              rw [HCT.out, htr, if_neg (by simp)]
            clear hlr htr
            by_cases hfit : (m + 1) + t.length ≤ 16000
            · have HFIT : Hid ((m + 1) + t.length ≤ 16000) := hfit
              have hsz : (⟨t.toArray⟩ : ByteArray).size = t.length := rfl
              have hfi : ((m : Int) + 1) + (t.length : Int) ≤ 16000 := by omega
              have hfd : decide (((m : Int) + 1) + (t.length : Int) ≤ 16000) = true := by simp; omega
              clear hfit
              go_wp2_with (first | (at_builtin; refine wpList_append_at rfl _ _ rfl (p + 1) (.slice (some ⟨g, 0, none⟩) (m + 1) cv) (m + 1) (bts txt) rfl HOWN.out ⟨t.toArray⟩ rfl (by have h1 := HTT.out.2; have h2 := HNG.out.2; have e : (⟨t.toArray⟩ : ByteArray).size = t.length := rfl; omega) (by have := HPG.out.lt; omega) ?_; intro v2 w2 ho hg hat; obtain ⟨o2, c2, rfl⟩ := Lx.own_form ho; have hlaid := PR.laid (more := t) HPG.out (Below.refl _ _) hg (by rw [bts_app, List.length_append, HNG.out.1]; exact ho) hat; have q2 := hlaid.1.1; have f2 := hlaid.1.2; have HPN : Hid (PR (w2.setCell ⟨p, 0, none⟩ (.slice o2 ((m + 1) + (⟨t.toArray⟩ : ByteArray).size) c2)) p (txt ++ t) d (.slice o2 ((m + 1) + (⟨t.toArray⟩ : ByteArray).size) c2) ∧ Lx.Kept p (.slice (some ⟨g, 0, none⟩) (m + 1) cv) (.slice o2 ((m + 1) + (⟨t.toArray⟩ : ByteArray).size) c2) wr (w2.setCell ⟨p, 0, none⟩ (.slice o2 ((m + 1) + (⟨t.toArray⟩ : ByteArray).size) c2))) := hlaid.2; clear ho hg hat hlaid)| (go_at_call 102; refine (isRun_print _ _).mono ?_; rintro e wi ⟨rfl, hwi⟩; rw [hwi]; clear hwi wi))
              refine (must_true _).mono ?_
              rintro e w8 ⟨rfl, rfl⟩
              have HRX : Hid (layP (ts.drop (k + 1)) (txt ++ t) = R) := by
                show _ = _
                rw [HST.out, HONE.out, if_pos (by rw [List.length_append, HNG.out.1]; exact HFIT.out)]
              have HPX : Hid (PR (w2.setCell ⟨p, 0, none⟩ (.slice o2 ((m + 1) + t.length) c2)) p (txt ++ t) d (.slice o2 ((m + 1) + t.length) c2) ∧ (txt ++ t).length ≤ 16000) := ⟨HPN.out.1, by rw [List.length_append, HNG.out.1]; exact HFIT.out⟩
              have HKX : Hid (Lx.Kept p v0 (.slice o2 ((m + 1) + t.length) c2) w (w2.setCell ⟨p, 0, none⟩ (.slice o2 ((m + 1) + t.length) c2))) := HK.out.trans HPN.out.2
              go_wp2
              go_roundw
              case rel => exact ⟨k + 1, txt ++ t, (.slice o2 ((m + 1) + t.length) c2), by go_num, HKL.out, HPX, HKX, HRX⟩
              case measure => simp [intOf]; omega
            · have HFIT : Hid (¬ (m + 1) + t.length ≤ 16000) := hfit
              have hsz : (⟨t.toArray⟩ : ByteArray).size = t.length := rfl
              have hfi : ¬ ((m : Int) + 1) + (t.length : Int) ≤ 16000 := by omega
              have hfd : decide (((m : Int) + 1) + (t.length : Int) ≤ 16000) = false := by simp; omega
              clear hfit
              go_wp2_with (first | (at_builtin; refine wpList_append_at rfl _ _ rfl (p + 1) (.slice (some ⟨g, 0, none⟩) (m + 1) cv) (m + 1) (bts txt) rfl HOWN.out ⟨t.toArray⟩ rfl (by have h1 := HTT.out.2; have h2 := HNG.out.2; have e : (⟨t.toArray⟩ : ByteArray).size = t.length := rfl; omega) (by have := HPG.out.lt; omega) ?_; intro v2 w2 ho hg hat; obtain ⟨o2, c2, rfl⟩ := Lx.own_form ho; have hlaid := PR.laid (more := t) HPG.out (Below.refl _ _) hg (by rw [bts_app, List.length_append, HNG.out.1]; exact ho) hat; have q2 := hlaid.1.1; have f2 := hlaid.1.2; have HPN : Hid (PR (w2.setCell ⟨p, 0, none⟩ (.slice o2 ((m + 1) + (⟨t.toArray⟩ : ByteArray).size) c2)) p (txt ++ t) d (.slice o2 ((m + 1) + (⟨t.toArray⟩ : ByteArray).size) c2) ∧ Lx.Kept p (.slice (some ⟨g, 0, none⟩) (m + 1) cv) (.slice o2 ((m + 1) + (⟨t.toArray⟩ : ByteArray).size) c2) wr (w2.setCell ⟨p, 0, none⟩ (.slice o2 ((m + 1) + (⟨t.toArray⟩ : ByteArray).size) c2))) := hlaid.2; clear ho hg hat hlaid)| (go_at_call 102; refine (isRun_print _ _).mono ?_; rintro e wi ⟨rfl, hwi⟩; rw [hwi]; clear hwi wi))
              refine (must_false _).mono ?_
              rintro e w8 ⟨he, rfl⟩
              unfold treeFault at he
              subst he
              have HRX : Hid (R = none) := by
                show _ = _
                rw [HST.out, HONE.out, if_neg (by rw [List.length_append, HNG.out.1]; exact HFIT.out)]
              have HKX : Hid (Lx.Kept p v0 (.slice o2 ((m + 1) + t.length) c2) w (w2.setCell ⟨p, 0, none⟩ (.slice o2 ((m + 1) + t.length) c2))) := HK.out.trans HPN.out.2
              go_wp2
              exact ⟨rfl, (.slice o2 ((m + 1) + t.length) c2), HKX.out, Or.inr ⟨HRX.out, rfl⟩⟩
          · have hrt : runP (ct.toNat : Int) = true := htr
            have HONE : Hid (oneP txt t = (txt ++ [32]) ++ t) := by
              show _ = _
              unfold oneP blankP
              rw [HLS.out, HCT.out, hlr, htr, if_pos]
              have := HNG.out.1
              simp
              omega
            obtain ⟨inf, hi1, hi2, hi3, hi4⟩ := info5_ex
            have HI : Hid (Tryz.prog.info? 5 = some inf ∧ inf.zero = some (.int .u8 0) ∧ inf.size = 1 ∧ inf.bytes = 1) := ⟨hi1, hi2, hi3, hi4⟩
            have HPG0 : Hid (PR wr p txt d (.slice (some ⟨g, 0, none⟩) (m + 1) cv)) := HPG
            have HOWN0 : Hid (wr.ownsRow (p + 1) 5 1 (.slice (some ⟨g, 0, none⟩) (m + 1) cv) (m + 1) (bts txt)) := HOWN
            have HNG0 : Hid (txt.length = m + 1 ∧ m + 1 ≤ 16000) := ⟨HNG.out.1, hn16⟩
            clear hlr htr HPG HOWN HNG hi1 hi2 hi3 hi4
            by_cases hfit : (m + 1 + 1) + t.length ≤ 16000
            · have HFIT : Hid ((m + 1 + 1) + t.length ≤ 16000) := hfit
              have hsz : (⟨t.toArray⟩ : ByteArray).size = t.length := rfl
              have hfi : ((m : Int) + 1 + 1) + (t.length : Int) ≤ 16000 := by omega
              have hfd : decide (((m : Int) + 1 + 1) + (t.length : Int) ≤ 16000) = true := by simp; omega
              clear hfit
              go_wp2_with (first | (at_builtin; refine wpList_append_at rfl _ _ rfl (p + 1) (.slice (some ⟨gq, 0, none⟩) (m + 1 + 1) cq) (m + 1 + 1) (bts (txt ++ [32])) rfl HOWN.out ⟨t.toArray⟩ rfl (by have h1 := HTT.out.2; have h2 := HNG.out.2; have e : (⟨t.toArray⟩ : ByteArray).size = t.length := rfl; omega) (by have := HPG.out.lt; omega) ?_; intro v2 w2 ho hg hat; obtain ⟨o2, c2, rfl⟩ := Lx.own_form ho; have hlaid := PR.laid (more := t) HPG.out (Below.refl _ _) hg (by rw [bts_app, List.length_append, HNG.out.1]; exact ho) hat; have q2 := hlaid.1.1; have f2 := hlaid.1.2; have HPN : Hid (PR (w2.setCell ⟨p, 0, none⟩ (.slice o2 ((m + 1 + 1) + (⟨t.toArray⟩ : ByteArray).size) c2)) p ((txt ++ [32]) ++ t) d (.slice o2 ((m + 1 + 1) + (⟨t.toArray⟩ : ByteArray).size) c2) ∧ Lx.Kept p (.slice (some ⟨gq, 0, none⟩) (m + 1 + 1) cq) (.slice o2 ((m + 1 + 1) + (⟨t.toArray⟩ : ByteArray).size) c2) wg (w2.setCell ⟨p, 0, none⟩ (.slice o2 ((m + 1 + 1) + (⟨t.toArray⟩ : ByteArray).size) c2))) := hlaid.2; clear ho hg hat hlaid)| (go_at_call 102; refine (isRun_print _ _).mono ?_; rintro e wi ⟨rfl, hwi⟩; rw [hwi]; clear hwi wi)| (at_builtin; refine wpList_append_lies _ rfl _ _ 66 rfl (p + 1) 5 inf (.int .u8 0) 1 1 Tryz.underlying66 HI.out.1 HI.out.2.1 HI.out.2.2.1 HI.out.2.2.2 rfl (by decide) (.slice (some ⟨g, 0, none⟩) (m + 1) cv) (m + 1) (bts txt) rfl (owns_block HOWN0.out (fun q _ hl => Below.heap_alloc _ _ q hl)) ⟨wr.heap.size, 0, none⟩ 1 1 [.int .u8 32] rfl rfl (World.news_of_block (cs := #[.int .u8 32]) (t := 5) (fr := (0, 0)) (heap_alloc_new _ _)) (by simp [Value.oneCell']) (by decide) (by have := HNG0.out; unfold maxLen; omega) (by have := HNG0.out; omega) (by have := HPG0.out.lt; simp; omega) _ rfl ?_; intro gq cq w1 hown hgrow hat hlt; have hlaid := PR.laid (more := [32]) HPG0.out (below_alloc wr (.cells #[.int .u8 32] 5)) hgrow (by rw [bts_app, List.length_append, HNG0.out.1]; exact hown) (by rcases hat with e | e; exact Or.inl e.symm; exact Or.inr (by rw [e]; rfl)); have q1 := hlaid.1.1; have f1 := hlaid.1.2; obtain ⟨wg, hwg⟩ : ∃ x, w1.setCell ⟨p, 0, none⟩ (.slice (some ⟨gq, 0, none⟩) (m + 1 + 1) cq) = x := ⟨_, rfl⟩; have hl2 := hlaid.2; rw [hwg] at hl2; have HPG : Hid (PR wg p (txt ++ [32]) d (.slice (some ⟨gq, 0, none⟩) (m + 1 + 1) cq)) := hl2.1; have HKG : Hid (Lx.Kept p v0 (.slice (some ⟨gq, 0, none⟩) (m + 1 + 1) cq) w wg) := HK.out.trans hl2.2; have gc0 := HPG.out.c0; have gf0 := HPG.out.f0; have HNG : Hid ((txt ++ [32]).length = m + 1 + 1 ∧ m + 1 + 1 ≤ 16001) := ⟨by rw [List.length_append, HNG0.out.1]; rfl, by have := HNG0.out; omega⟩; have HOWN : Hid (wg.ownsRow (p + 1) 5 1 (.slice (some ⟨gq, 0, none⟩) (m + 1 + 1) cq) (m + 1 + 1) (bts (txt ++ [32]))) := (by have h9 := HPG.out.own; rw [HNG.out.1] at h9; exact h9); clear hown hgrow hat hlt hlaid hl2))
              refine (must_true _).mono ?_
              rintro e w8 ⟨rfl, rfl⟩
              have HRX : Hid (layP (ts.drop (k + 1)) ((txt ++ [32]) ++ t) = R) := by
                show _ = _
                rw [HST.out, HONE.out, if_pos (by rw [List.length_append, HNG.out.1]; exact HFIT.out)]
              have HPX : Hid (PR (w2.setCell ⟨p, 0, none⟩ (.slice o2 ((m + 1 + 1) + t.length) c2)) p ((txt ++ [32]) ++ t) d (.slice o2 ((m + 1 + 1) + t.length) c2) ∧ ((txt ++ [32]) ++ t).length ≤ 16000) := ⟨HPN.out.1, by rw [List.length_append, HNG.out.1]; exact HFIT.out⟩
              have HKX : Hid (Lx.Kept p v0 (.slice o2 ((m + 1 + 1) + t.length) c2) w (w2.setCell ⟨p, 0, none⟩ (.slice o2 ((m + 1 + 1) + t.length) c2))) := HKG.out.trans HPN.out.2
              go_wp2
              go_roundw
              case rel => exact ⟨k + 1, (txt ++ [32]) ++ t, (.slice o2 ((m + 1 + 1) + t.length) c2), by go_num, HKL.out, HPX, HKX, HRX⟩
              case measure => simp [intOf]; omega
            · have HFIT : Hid (¬ (m + 1 + 1) + t.length ≤ 16000) := hfit
              have hsz : (⟨t.toArray⟩ : ByteArray).size = t.length := rfl
              have hfi : ¬ ((m : Int) + 1 + 1) + (t.length : Int) ≤ 16000 := by omega
              have hfd : decide (((m : Int) + 1 + 1) + (t.length : Int) ≤ 16000) = false := by simp; omega
              clear hfit
              go_wp2_with (first | (at_builtin; refine wpList_append_at rfl _ _ rfl (p + 1) (.slice (some ⟨gq, 0, none⟩) (m + 1 + 1) cq) (m + 1 + 1) (bts (txt ++ [32])) rfl HOWN.out ⟨t.toArray⟩ rfl (by have h1 := HTT.out.2; have h2 := HNG.out.2; have e : (⟨t.toArray⟩ : ByteArray).size = t.length := rfl; omega) (by have := HPG.out.lt; omega) ?_; intro v2 w2 ho hg hat; obtain ⟨o2, c2, rfl⟩ := Lx.own_form ho; have hlaid := PR.laid (more := t) HPG.out (Below.refl _ _) hg (by rw [bts_app, List.length_append, HNG.out.1]; exact ho) hat; have q2 := hlaid.1.1; have f2 := hlaid.1.2; have HPN : Hid (PR (w2.setCell ⟨p, 0, none⟩ (.slice o2 ((m + 1 + 1) + (⟨t.toArray⟩ : ByteArray).size) c2)) p ((txt ++ [32]) ++ t) d (.slice o2 ((m + 1 + 1) + (⟨t.toArray⟩ : ByteArray).size) c2) ∧ Lx.Kept p (.slice (some ⟨gq, 0, none⟩) (m + 1 + 1) cq) (.slice o2 ((m + 1 + 1) + (⟨t.toArray⟩ : ByteArray).size) c2) wg (w2.setCell ⟨p, 0, none⟩ (.slice o2 ((m + 1 + 1) + (⟨t.toArray⟩ : ByteArray).size) c2))) := hlaid.2; clear ho hg hat hlaid)| (go_at_call 102; refine (isRun_print _ _).mono ?_; rintro e wi ⟨rfl, hwi⟩; rw [hwi]; clear hwi wi)| (at_builtin; refine wpList_append_lies _ rfl _ _ 66 rfl (p + 1) 5 inf (.int .u8 0) 1 1 Tryz.underlying66 HI.out.1 HI.out.2.1 HI.out.2.2.1 HI.out.2.2.2 rfl (by decide) (.slice (some ⟨g, 0, none⟩) (m + 1) cv) (m + 1) (bts txt) rfl (owns_block HOWN0.out (fun q _ hl => Below.heap_alloc _ _ q hl)) ⟨wr.heap.size, 0, none⟩ 1 1 [.int .u8 32] rfl rfl (World.news_of_block (cs := #[.int .u8 32]) (t := 5) (fr := (0, 0)) (heap_alloc_new _ _)) (by simp [Value.oneCell']) (by decide) (by have := HNG0.out; unfold maxLen; omega) (by have := HNG0.out; omega) (by have := HPG0.out.lt; simp; omega) _ rfl ?_; intro gq cq w1 hown hgrow hat hlt; have hlaid := PR.laid (more := [32]) HPG0.out (below_alloc wr (.cells #[.int .u8 32] 5)) hgrow (by rw [bts_app, List.length_append, HNG0.out.1]; exact hown) (by rcases hat with e | e; exact Or.inl e.symm; exact Or.inr (by rw [e]; rfl)); have q1 := hlaid.1.1; have f1 := hlaid.1.2; obtain ⟨wg, hwg⟩ : ∃ x, w1.setCell ⟨p, 0, none⟩ (.slice (some ⟨gq, 0, none⟩) (m + 1 + 1) cq) = x := ⟨_, rfl⟩; have hl2 := hlaid.2; rw [hwg] at hl2; have HPG : Hid (PR wg p (txt ++ [32]) d (.slice (some ⟨gq, 0, none⟩) (m + 1 + 1) cq)) := hl2.1; have HKG : Hid (Lx.Kept p v0 (.slice (some ⟨gq, 0, none⟩) (m + 1 + 1) cq) w wg) := HK.out.trans hl2.2; have gc0 := HPG.out.c0; have gf0 := HPG.out.f0; have HNG : Hid ((txt ++ [32]).length = m + 1 + 1 ∧ m + 1 + 1 ≤ 16001) := ⟨by rw [List.length_append, HNG0.out.1]; rfl, by have := HNG0.out; omega⟩; have HOWN : Hid (wg.ownsRow (p + 1) 5 1 (.slice (some ⟨gq, 0, none⟩) (m + 1 + 1) cq) (m + 1 + 1) (bts (txt ++ [32]))) := (by have h9 := HPG.out.own; rw [HNG.out.1] at h9; exact h9); clear hown hgrow hat hlt hlaid hl2))
              refine (must_false _).mono ?_
              rintro e w8 ⟨he, rfl⟩
              unfold treeFault at he
              subst he
              have HRX : Hid (R = none) := by
                show _ = _
                rw [HST.out, HONE.out, if_neg (by rw [List.length_append, HNG.out.1]; exact HFIT.out)]
              have HKX : Hid (Lx.Kept p v0 (.slice o2 ((m + 1 + 1) + t.length) c2) w (w2.setCell ⟨p, 0, none⟩ (.slice o2 ((m + 1 + 1) + t.length) c2))) := HKG.out.trans HPN.out.2
              go_wp2
              exact ⟨rfl, (.slice o2 ((m + 1 + 1) + t.length) c2), HKX.out, Or.inr ⟨HRX.out, rfl⟩⟩

    · have hke : k = TN := by omega
      subst hke
      have hk' : ¬ (k : Int) < k := by omega
      have HRN : Hid (R = some txt) := by
        show _ = _
        rw [← HL.out, List.drop_of_length_le (by have := HTN.out; omega)]
        rfl
      go_wp2
      first | go_end0 | refine bodyPost_ret (results_none rfl _ _ _) rfl ?_
      rw [HRN.out]
      exact ⟨v, HK.out, Or.inl ⟨txt, rfl, rfl, HPR.out.1⟩⟩
end Go.Proofs.YteokdknaadckbaaGreatDoor
