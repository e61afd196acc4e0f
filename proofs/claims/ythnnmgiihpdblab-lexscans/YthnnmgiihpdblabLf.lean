/- Lex, plainly: a fault hangs on what stands up to it. -/
import Derived.Test.YthnnmgiihpdblabLm
namespace Go.Proofs.Ythnnmgiihpdblab

inductive Reach (l : List UInt8) : Nat → List Tok → Nat → List Tok → Prop
  | refl {i ts} : Reach l i ts i ts
  | step {i ts t j k us} (h : i < l.length) (hs : stepS l i = .go t j) (hr : Reach l j (ts ++ t.toList) k us) : Reach l i ts k us

theorem Reach.scans {l : List UInt8} {i k : Nat} {ts us : List Tok} {R : Res} (h : Reach l i ts k us) (hR : Scans l k us R) : Scans l i ts R := by
  induction h with
  | refl => exact hR
  | step h hs _ ih => exact .go h hs (ih hR)

theorem Reach.trans {l : List UInt8} {i k m : Nat} {ts us vs : List Tok} (h : Reach l i ts k us) (h2 : Reach l k us m vs) : Reach l i ts m vs := by
  induction h with
  | refl => exact h2
  | step h hs _ ih => exact .step h hs (ih h2)

theorem reach_of_err {l : List UInt8} {i p : Nat} {ts : List Tok} {e : Int} {R : Res} (h : Scans l i ts R) (hR : R = .err e p) : ∃ us, Reach l i ts p us ∧ p < l.length ∧ stepS l p = .err e := by
  induction h with
  | done _ => cases hR
  | err h hs => cases hR; exact ⟨_, .refl, h, hs⟩
  | go h hs _ ih => obtain ⟨us, h1, h2⟩ := ih hR; exact ⟨us, .step h hs h1, h2⟩

theorem ok_last {l : List UInt8} {i : Nat} {ts vs : List Tok} {R : Res} (h : Scans l i ts R) (hR : R = .ok vs) : ∃ us, vs = us ++ [⟨5, [], 0, l.length⟩] := by
  induction h with
  | done _ => cases hR; exact ⟨_, rfl⟩
  | err _ _ => cases hR
  | go _ _ _ ih => exact ih hR

theorem runEnd_not {l : List UInt8} {i : Nat} (h : i ≤ l.length) : runB (l.getD (runEnd l i) 0) = false := by
  obtain ⟨d, hd⟩ : ∃ d, l.length = i + d := ⟨l.length - i, by omega⟩
  clear h
  induction d generalizing i with
  | zero =>
    have h0 : runB (l.getD i 0) = false := by rw [getD_ge (by omega)]; decide
    rw [runEnd_stop h0]; exact h0
  | succ d ih =>
    cases hr : runB (l.getD i 0)
    · rw [runEnd_stop hr]; exact hr
    · rw [runEnd_go hr]; exact ih (by omega)

theorem runEnd_run {l : List UInt8} {i j : Nat} (h1 : i ≤ j) (h2 : j < runEnd l i) : runB (l.getD j 0) = true := by
  obtain ⟨d, rfl⟩ : ∃ d, j = i + d := ⟨j - i, by omega⟩
  clear h1
  induction d generalizing i with
  | zero =>
    cases hr : runB (l.getD i 0)
    · rw [runEnd_stop hr] at h2; omega
    · rfl
  | succ d ih =>
    have hr : runB (l.getD i 0) = true := by
      cases hr : runB (l.getD i 0)
      · rw [runEnd_stop hr] at h2; omega
      · rfl
    rw [show i + (d + 1) = i + 1 + d by omega]
    exact ih (by rw [← runEnd_go hr]; omega)

theorem cend_some {l : List UInt8} {i j : Nat} (h : cend l i = some j) : i + 2 ≤ j ∧ j ≤ l.length ∧ l.getD (j - 2) 0 = 42 ∧ l.getD (j - 1) 0 = 47 ∧ ∀ k, i ≤ k → k < j - 2 → ¬ (l.getD k 0 = 42 ∧ l.getD (k + 1) 0 = 47) := by
  obtain ⟨d, hd⟩ : ∃ d, l.length ≤ i + d := ⟨l.length, by omega⟩
  induction d generalizing i with
  | zero => rw [cend_none_of (by omega)] at h; cases h
  | succ d ih =>
    by_cases hc : l.getD i 0 = 42 ∧ l.getD (i + 1) 0 = 47
    · rw [cend_here hc.1 hc.2] at h
      cases h
      have hl : i + 1 < l.length := by
        rcases Nat.lt_or_ge (i + 1) l.length with h | h
        · exact h
        · have := hc.2; rw [getD_ge h] at this; cases this
      exact ⟨by omega, by omega, hc.1, hc.2, fun k h1 h2 => by omega⟩
    · rw [cend_next hc] at h
      obtain ⟨h1, h2, h3, h4, h5⟩ := ih h (by omega)
      refine ⟨by omega, h2, h3, h4, fun k h6 h7 => ?_⟩
      rcases Nat.lt_or_ge i k with h8 | h8
      · exact h5 k (by omega) h7
      · rw [show k = i by omega]; exact hc

theorem cend_is {l : List UInt8} {i j : Nat} (h1 : i + 2 ≤ j) (h2 : l.getD (j - 2) 0 = 42) (h3 : l.getD (j - 1) 0 = 47) (h : ∀ k, i ≤ k → k < j - 2 → ¬ (l.getD k 0 = 42 ∧ l.getD (k + 1) 0 = 47)) : cend l i = some j := by
  obtain ⟨d, rfl⟩ : ∃ d, j = i + 2 + d := ⟨j - (i + 2), by omega⟩
  clear h1
  induction d generalizing i with
  | zero => exact cend_here h2 h3
  | succ d ih =>
    rw [cend_next (h i (by omega) (by omega))]
    rw [show i + 2 + (d + 1) = i + 1 + 2 + d by omega] at h2 h3 h ⊢
    exact ih h2 h3 fun k h6 h7 => h k (by omega) h7

theorem step_lt {l : List UInt8} {i j : Nat} {t : Option Tok} (h : i < l.length) (hs : stepS l i = .go t j) : i < j ∧ j ≤ l.length := by
  unfold stepS at hs
  split at hs
  · cases hs; omega
  split at hs
  · split at hs
    · cases hs
    · rename_i hc; cases hs; have := cend_some hc; omega
  split at hs
  · rename_i hl
    have h1 := runEnd_go (let_not hl).2.2.2.2.2
    have h2 := runEnd_le (l := l) (i := i + 1) (by omega)
    split at hs
    · cases hs
    · cases hs; omega
  split at hs
  · rename_i hd
    have h1 := runEnd_go (dig_not hd).2.2.2.2.2
    have hn : numAt l i < l.length := by
      rcases Nat.lt_or_ge (numAt l i) l.length with h | h
      · exact h
      · rw [getD_ge h] at hd; cases hd
    have hi : i ≤ numAt l i := by unfold numAt; split <;> omega
    have h2 := runEnd_le (l := l) (i := numAt l i + 1) (by omega)
    split at hs
    · cases hs
    · cases hs; omega
  split at hs
  · cases hs; omega
  · cases hs

theorem Reach.le {l : List UInt8} {i k : Nat} {ts us : List Tok} (h : Reach l i ts k us) : i ≤ k := by
  induction h with
  | refl => exact Nat.le_refl _
  | step h hs _ ih => have := step_lt h hs; omega

theorem sub_same {l l' : List UInt8} {i j : Nat} (h : ∀ k, k < j → l'.getD k 0 = l.getD k 0) (h1 : j ≤ l.length) (h2 : j ≤ l'.length) : sub l' i j = sub l i j := by
  unfold sub
  apply List.ext_getElem?
  intro k
  rw [List.getElem?_take, List.getElem?_take, List.getElem?_drop, List.getElem?_drop]
  split
  · have e := h (i + k) (by omega)
    rw [getD_lt (by omega), getD_lt (by omega)] at e
    rw [List.getElem?_eq_getElem (by omega), List.getElem?_eq_getElem (by omega), e]
  · rfl

theorem runEnd_same {l l' : List UInt8} {i j : Nat} (hi : i ≤ j) (h : ∀ k, k < j → l'.getD k 0 = l.getD k 0) (he : runEnd l i = j) (hb : runB (l'.getD j 0) = false) : runEnd l' i = j := by
  rw [runEnd_to (k := j) hi fun k h1 h2 => ?_, runEnd_stop hb]
  rw [h k h2]; exact runEnd_run h1 (by omega)

theorem step_same {l l' : List UInt8} {i j p : Nat} {t : Option Tok} (hi : i < l.length) (hs : stepS l i = .go t j) (ha : ∀ k, k < p → l'.getD k 0 = l.getD k 0) (hp : p ≤ l'.length) (hj : j ≤ p)
    (hb : l'.getD p 0 = l.getD p 0 ∨ l'.length = p) : stepS l' i = .go t j := by
  have hlt := step_lt hi hs
  have ei : l'.getD i 0 = l.getD i 0 := ha i (by omega)
  have stop : runB (l.getD j 0) = false → runB (l'.getD j 0) = false := fun h => by
    rcases Nat.lt_or_ge j p with h1 | h1
    · rw [ha j h1]; exact h
    · obtain rfl : j = p := by omega
      rcases hb with hb | hb
      · rw [hb]; exact h
      · rw [getD_ge (by omega)]; decide
  have en : numAt l' i = numAt l i := by unfold numAt; rw [ei]
  unfold stepS at hs
  unfold stepS
  rw [ei, en]
  split at hs
  · rename_i h; rw [if_pos h]; exact hs
  rename_i h; rw [if_neg h]
  split at hs
  · rename_i h
    split at hs
    · cases hs
    · rename_i hc
      cases hs
      obtain ⟨h1, h2, h3, h4, h5⟩ := cend_some hc
      rw [if_pos ⟨h.1, by rw [ha (i + 1) (by omega)]; exact h.2⟩]
      rw [cend_is (l := l') (i := i + 2) (j := j) h1 (by rw [ha _ (by omega)]; exact h3) (by rw [ha _ (by omega)]; exact h4) fun k h6 h7 => by
        rw [ha k (by omega), ha (k + 1) (by omega)]; exact h5 k h6 h7]
  split at hs
  · rename_i hc hl
    rw [if_neg (fun h => (let_not hl).2.1 h.1), if_pos hl]
    split at hs
    · cases hs
    · rename_i h32
      have hj2 : runEnd l i = j := by cases hs; rfl
      have e1 : runEnd l' i = j := runEnd_same (by omega) (fun k hk => ha k (by omega)) hj2 (stop (by rw [← hj2]; exact runEnd_not (by omega)))
      rw [hj2] at hs h32
      rw [e1, if_neg h32, sub_same (fun k hk => ha k (by omega)) (by omega) (by omega)]
      exact hs
  split at hs
  · rename_i hc hl hd
    have h45 : numAt l i < j := by
      have hn : numAt l i < l.length := by
        rcases Nat.lt_or_ge (numAt l i) l.length with h | h
        · exact h
        · rw [getD_ge h] at hd; cases hd
      have h1 := runEnd_go (dig_not hd).2.2.2.2.2
      have h2 := runEnd_le (l := l) (i := numAt l i + 1) (by omega)
      split at hs
      · cases hs
      · cases hs; omega
    have hn47 : ¬ (l.getD i 0 = 47 ∧ l'.getD (i + 1) 0 = 42) := fun h => by
      have : numAt l i = i := by unfold numAt; rw [h.1]; rfl
      rw [this, h.1] at hd; cases hd
    rw [if_neg hn47, if_neg hl, ha _ (by omega), if_pos hd]
    split at hs
    · cases hs
    · rename_i n hn
      have hj2 : runEnd l (numAt l i) = j := by cases hs; rfl
      have hi2 : numAt l i ≤ l.length := by omega
      have e1 : runEnd l' (numAt l i) = j := runEnd_same (by omega) (fun k hk => ha k (by omega)) hj2 (stop (by rw [← hj2]; exact runEnd_not hi2))
      rw [hj2] at hn hs
      rw [e1, sub_same (fun k hk => ha k (by omega)) (by omega) (by omega), hn]
      exact hs
  split at hs
  · rename_i hc hl hd hsg
    have hb2 := sign_not hsg
    have hn : numAt l i = i := by unfold numAt; rw [if_neg hb2.2.2.2.1]
    rw [if_neg (fun h => hb2.2.1 h.1), if_neg hl, hn, ei, if_neg (by rw [hb2.2.2.2.2.1]; decide), if_pos hsg]
    have hj2 : i + 1 = j := by cases hs; rfl
    rw [sub_same (fun k hk => ha k (by omega)) (by omega) (by omega)]
    exact hs
  · cases hs

theorem Reach.same {l l' : List UInt8} {i p : Nat} {ts us : List Tok} (h : Reach l i ts p us) (ha : ∀ k, k < p → l'.getD k 0 = l.getD k 0) (hp : p ≤ l'.length) (hb : l'.getD p 0 = l.getD p 0 ∨ l'.length = p) : Reach l' i ts p us := by
  induction h with
  | refl => exact .refl
  | step h hs hr ih =>
    have h1 := step_lt h hs
    have h2 := hr.le
    exact .step (by omega) (step_same h hs ha hp h2 hb) (ih ha hp hb)

theorem getD_take {l : List UInt8} {p k : Nat} (h : k < p) : (l.take p).getD k 0 = l.getD k 0 := by
  simp [List.getD, h]
theorem getD_app {a b : List UInt8} {k : Nat} (h : k < a.length) : (a ++ b).getD k 0 = a.getD k 0 := by
  simp [List.getD, List.getElem?_append_left h]
theorem getD_app_r {a b : List UInt8} {k : Nat} (h : a.length ≤ k) : (a ++ b).getD k 0 = b.getD (k - a.length) 0 := by
  simp [List.getD, List.getElem?_append_right h]

theorem fault_reach {l : List UInt8} {e : Int} {p : Nat} (h : scanP l = .err e p) (hl : l.length ≤ 16000) : ∃ us, Reach l 0 [] p us ∧ p < l.length ∧ stepS l p = .err e :=
  reach_of_err (scanP_scans hl) h

theorem fault_kinds {l : List UInt8} {e : Int} {p : Nat} (h : stepS l p = .err e) : e = 30 ∨ e = 31 ∨ e = 32 ∨ e = 33 := by
  unfold stepS at h
  repeat' split at h
  all_goals cases h
  all_goals simp

theorem fault_ahead {l : List UInt8} {e : Int} {p : Nat} (h : scanP l = .err e p) (hl : l.length ≤ 16000) : ∃ ts, scanP (l.take p) = .ok ts := by
  obtain ⟨us, h1, h2, _⟩ := fault_reach h hl
  have hlen : (l.take p).length = p := by simp; omega
  have h3 := (h1.same (l' := l.take p) (fun k hk => getD_take hk) (by omega) (.inr hlen)).scans (.done (by omega))
  exact ⟨_, (scanP_scans (by omega)).det h3⟩

theorem fault_comment {l : List UInt8} {p : Nat} (h : scanP l = .err 33 p) (hl : l.length ≤ 16000) (hp : p + 5 ≤ 16000) : ∃ ts, scanP (l.take p ++ [47, 42, 32, 42, 47]) = .ok ts := by
  obtain ⟨us, h1, h2, h3⟩ := fault_reach h hl
  have hlen : (l.take p).length = p := by simp; omega
  have hlen2 : (l.take p ++ [47, 42, 32, 42, 47]).length = p + 5 := by rw [List.length_append, hlen]; rfl
  have hc : l.getD p 0 = 47 := by
    unfold stepS at h3
    split at h3
    · cases h3
    split at h3
    · rename_i h; exact h.1
    all_goals (repeat' split at h3)
    all_goals cases h3
  generalize hX : l.take p ++ [47, 42, 32, 42, 47] = X at *
  have eb : ∀ k, k < 5 → X.getD (p + k) 0 = ([47, 42, 32, 42, 47] : List UInt8).getD k 0 := fun k hk => by
    rw [← hX, getD_app_r (by omega), hlen]; congr 1; omega
  have e0 : X.getD p 0 = 47 := eb 0 (by omega)
  have e1 : X.getD (p + 1) 0 = 42 := eb 1 (by omega)
  have e2 : X.getD (p + 2) 0 = 32 := eb 2 (by omega)
  have e3 : X.getD (p + 3) 0 = 42 := eb 3 (by omega)
  have e4 : X.getD (p + 4) 0 = 47 := eb 4 (by omega)
  have h4 := (h1.same (l' := X) (fun k hk => by rw [← hX, getD_app (by omega), getD_take hk]) (by omega) (.inl (by rw [e0, hc])))
  have hst : stepS X p = .go none (p + 5) := by
    unfold stepS
    rw [e0, e1, if_neg (by decide), if_pos ⟨rfl, rfl⟩]
    have : cend X (p + 2) = some (p + 5) := by
      refine cend_is (by omega) e3 e4 fun k h1 h2 h => ?_
      rw [show k = p + 2 by omega, e2] at h; exact absurd h.1 (by decide)
    rw [this]
  exact ⟨_, (scanP_scans (by omega)).det (h4.scans (.go (by omega) hst (.done (by omega))))⟩

/-- where the run or byte at a fault ends -/
def faultEnd (l : List UInt8) (e : Int) (p : Nat) : Nat := if e = 30 then p + 1 else runEnd l (p + 1)

theorem fault_behind {l m : List UInt8} {e : Int} {p : Nat} (h : scanP l = .err e p) (hl : l.length ≤ 16000) (he : e ≠ 33) (ht : (l.take (faultEnd l e p) ++ [32] ++ m).length ≤ 16000) :
    scanP (l.take (faultEnd l e p) ++ [32] ++ m) = .err e p := by
  obtain ⟨us, h1, h2, h3⟩ := fault_reach h hl
  have hE : p + 1 ≤ faultEnd l e p ∧ faultEnd l e p ≤ l.length := by
    unfold faultEnd
    have := runEnd_le (l := l) (i := p + 1) (by omega)
    split <;> omega
  have hEd : faultEnd l e p = if e = 30 then p + 1 else runEnd l (p + 1) := rfl
  generalize faultEnd l e p = E at *
  have hlen : (l.take E).length = E := by simp; omega
  have ha : ∀ k, k < E → (l.take E ++ [32] ++ m).getD k 0 = l.getD k 0 := fun k hk => by
    rw [List.append_assoc, getD_app (by omega), getD_take hk]
  have hx : (l.take E ++ [32] ++ m).getD E 0 = 32 := by
    rw [List.append_assoc, getD_app_r (by omega), hlen, Nat.sub_self]; rfl
  have hXl : E < (l.take E ++ [32] ++ m).length := by simp; omega
  generalize l.take E ++ [32] ++ m = X at *
  have ei : X.getD p 0 = l.getD p 0 := ha p (by omega)
  have en : numAt X p = numAt l p := by unfold numAt; rw [ei]
  have h4 := h1.same (l' := X) (fun k hk => ha k (by omega)) (by omega) (.inl ei)
  have h32 : runB (X.getD E 0) = false := by rw [hx]; decide
  have hst : stepS X p = .err e := by
    unfold stepS at h3
    unfold stepS
    rw [ei, en]
    split at h3
    · cases h3
    rename_i hb
    rw [if_neg hb]
    split at h3
    · split at h3
      · cases h3; exact absurd rfl he
      · cases h3
    rename_i hcm
    split at h3
    · rename_i hlt
      have h5 := let_not hlt
      rw [if_neg (fun h => h5.2.1 h.1), if_pos hlt]
      split at h3
      · rename_i h6
        cases h3
        rw [if_neg (by decide)] at hEd
        rw [← runEnd_go h5.2.2.2.2.2] at hEd
        rw [runEnd_same (by omega) ha hEd.symm h32, hEd, if_pos h6]
      · cases h3
    rename_i hlt
    split at h3
    · rename_i hd
      have h5 := dig_not hd
      have hnp : p ≤ numAt l p ∧ numAt l p ≤ p + 1 := by unfold numAt; split <;> omega
      have hn47 : ¬ (l.getD p 0 = 47 ∧ X.getD (p + 1) 0 = 42) := fun h => by
        have : numAt l p = p := by unfold numAt; rw [h.1]; rfl
        rw [this, h.1] at hd; cases hd
      split at h3
      · rename_i hnone
        cases h3
        rw [if_neg (by decide)] at hEd
        have hrun : runEnd l (numAt l p) = E := by
          rcases Nat.lt_or_ge p (numAt l p) with h6 | h6
          · rw [hEd]; congr 1; omega
          · have : numAt l p = p := by omega
            rw [this] at h5 ⊢
            rw [hEd]; exact runEnd_go h5.2.2.2.2.2
        have hnE : numAt l p < E := by
          have h6 := runEnd_go h5.2.2.2.2.2
          have hn : numAt l p < l.length := by
            rcases Nat.lt_or_ge (numAt l p) l.length with h | h
            · exact h
            · rw [getD_ge h] at hd; cases hd
          have h7 := runEnd_le (l := l) (i := numAt l p + 1) (by omega)
          omega
        rw [if_neg hn47, if_neg hlt, ha _ hnE, if_pos hd, runEnd_same (by omega) ha hrun h32, sub_same ha (by omega) (by omega), ← hrun, hnone]
      · cases h3
    rename_i hd
    split at h3
    · cases h3
    rename_i hsg
    cases h3
    rw [if_pos rfl] at hEd
    subst hEd
    rw [hx, if_neg (fun h => absurd h.2 (by decide)), if_neg hlt, if_neg, if_neg hsg]
    by_cases h45 : l.getD p 0 = 45
    · have : numAt l p = p + 1 := by unfold numAt; rw [if_pos h45]
      rw [this, hx]; decide
    · have : numAt l p = p := by unfold numAt; rw [if_neg h45]
      rw [this, ei]; rwa [this] at hd
  exact (scanP_scans ht).det (h4.scans (.err (by omega) hst))

end Go.Proofs.Ythnnmgiihpdblab
