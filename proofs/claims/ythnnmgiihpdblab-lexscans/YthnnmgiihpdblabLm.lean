/- Lex, plainly: bytes, runs, numbers, the scanner as a machine, and as steps from token to token. -/
namespace Go.Proofs.Ythnnmgiihpdblab

def letterP (c : Int) : Bool := (decide (97 ≤ c) && decide (c ≤ 122)) || (decide (65 ≤ c) && decide (c ≤ 90))
def digitP (c : Int) : Bool := decide (48 ≤ c) && decide (c ≤ 57)
def runP (c : Int) : Bool := letterP c || digitP c || c == 95

def runB (c : UInt8) : Bool := runP (c.toNat : Int)
def letB (c : UInt8) : Bool := letterP (c.toNat : Int)
def digB (c : UInt8) : Bool := digitP (c.toNat : Int)
def blankB (c : UInt8) : Bool := c == 32 || c == 9 || c == 10 || c == 13
def signL : List UInt8 := [123, 125, 40, 41, 91, 93, 60, 62, 61, 59, 58, 44, 42]
def signB (c : UInt8) : Bool := signL.contains c

def wordsL : List (List UInt8) := [[98, 111, 111, 108], [99, 97, 115, 101], [99, 111, 110, 115, 116], [100, 101, 102, 97, 117, 108, 116], [100, 111, 117, 98, 108, 101], [101, 110, 117, 109], [102, 108, 111, 97, 116], [104, 121, 112, 101, 114], [105, 110, 116], [111, 112, 97, 113, 117, 101], [112, 114, 111, 103, 114, 97, 109], [113, 117, 97, 100, 114, 117, 112, 108, 101], [115, 116, 114, 105, 110, 103], [115, 116, 114, 117, 99, 116], [115, 119, 105, 116, 99, 104], [116, 121, 112, 101, 100, 101, 102], [117, 110, 105, 111, 110], [117, 110, 115, 105, 103, 110, 101, 100], [118, 101, 114, 115, 105, 111, 110], [118, 111, 105, 100]]
def isWordP (l : List UInt8) : Bool := wordsL.contains l

structure Tok where
  kind : Int
  text : List UInt8
  num : Int
  at_ : Nat
deriving DecidableEq

inductive Res where
  | ok (l : List Tok)
  | err (e : Int) (i : Nat)
deriving DecidableEq

/-- what a digit says; 16: it is none -/
def digV (c : UInt8) : Nat :=
  if digB c then c.toNat - 48 else if 97 ≤ c.toNat ∧ c.toNat ≤ 102 then c.toNat - 97 + 10 else if 65 ≤ c.toNat ∧ c.toNat ≤ 70 then c.toNat - 65 + 10 else 16

def reckP (base most : Nat) : Nat → List UInt8 → Option Nat
  | n, [] => some n
  | n, c :: r => if base ≤ digV c then none else if most < n * base + digV c then none else reckP base most (n * base + digV c) r

def reckV (ds : List UInt8) (base most : Nat) : Option Nat := if ds = [] then none else reckP base most 0 ds

def formP (r : List UInt8) : List UInt8 × Nat :=
  if r.getD 0 0 ≠ 48 then (r, 10) else if 1 < r.length ∧ r.getD 1 0 = 120 then (r.drop 2, 16) else (r, 8)

def numP (t : List UInt8) : Option Int :=
  if t.getD 0 0 ≠ 45 then (reckV (formP t).1 (formP t).2 4294967295).map (fun (n : Nat) => (n : Int))
  else if (formP (t.drop 1)).2 ≠ 10 then none
  else (reckV (formP (t.drop 1)).1 10 2147483648).map (fun (n : Nat) => -(n : Int))

def beginP (c : UInt8) : Nat :=
  if blankB c then 0 else if letB c then 6 else if digB c then 5 else if signB c then 7 else if c == 45 then 4 else if c == 47 then 1 else 8

def goOnP (st : Nat) (c : UInt8) : Nat × Bool :=
  if st = 1 then (2, c == 42)
  else if st = 2 ∨ st = 3 then (if c == 42 then 3 else if c == 47 && st == 3 then 0 else 2, true)
  else if st = 4 then (5, digB c)
  else if st = 5 ∨ st = 6 then (st, runB c)
  else (st, false)

def sub (l : List UInt8) (i j : Nat) : List UInt8 := (l.drop i).take (j - i)

/-- what ends: 0 and a token or none; else what is wrong -/
def endP (l : List UInt8) (st frm at_ : Nat) : Int × Option Tok :=
  if st = 8 ∨ st = 1 ∨ st = 4 then (30, none)
  else if st = 2 ∨ st = 3 then (33, none)
  else if st = 5 then (match numP (sub l frm at_) with | some n => (0, some ⟨3, [], n, frm⟩) | none => (31, none))
  else if st = 6 then (if 32 < (sub l frm at_).length then (32, none) else (0, some ⟨if isWordP (sub l frm at_) then 2 else 1, sub l frm at_, 0, frm⟩))
  else if st = 7 then (0, some ⟨4, sub l frm at_, 0, frm⟩)
  else (0, none)

def machP (l : List UInt8) : List UInt8 → Nat → Nat → Nat → List Tok → Res
  | [], at_, st, frm, ts => if (endP l st frm at_).1 = 0 then .ok (ts ++ (endP l st frm at_).2.toList ++ [⟨5, [], 0, l.length⟩]) else .err (endP l st frm at_).1 frm
  | c :: r, at_, st, frm, ts =>
    if (goOnP st c).2 then machP l r (at_ + 1) (goOnP st c).1 frm ts
    else if (endP l st frm at_).1 = 0 then machP l r (at_ + 1) (beginP c) at_ (ts ++ (endP l st frm at_).2.toList)
    else .err (endP l st frm at_).1 frm

def scanP (l : List UInt8) : Res := if 16000 < l.length then .err 34 16000 else machP l l 0 0 0 []

/- from token to token -/
def runEnd (l : List UInt8) (i : Nat) : Nat := i + ((l.drop i).takeWhile runB).length

def cendL : List UInt8 → Option Nat
  | [] => none
  | [_] => none
  | a :: b :: r => if a = 42 ∧ b = 47 then some 2 else (cendL (b :: r)).map (· + 1)

def cend (l : List UInt8) (i : Nat) : Option Nat := (cendL (l.drop i)).map (i + ·)

inductive Stp where
  | err (e : Int)
  | go (t : Option Tok) (j : Nat)

/-- where a number's digits begin -/
def numAt (l : List UInt8) (i : Nat) : Nat := if l.getD i 0 = 45 then i + 1 else i

def stepS (l : List UInt8) (i : Nat) : Stp :=
  if blankB (l.getD i 0) then .go none (i + 1)
  else if l.getD i 0 = 47 ∧ l.getD (i + 1) 0 = 42 then (match cend l (i + 2) with | none => .err 33 | some j => .go none j)
  else if letB (l.getD i 0) then
    (if 32 < runEnd l i - i then .err 32 else .go (some ⟨if isWordP (sub l i (runEnd l i)) then 2 else 1, sub l i (runEnd l i), 0, i⟩) (runEnd l i))
  else if digB (l.getD (numAt l i) 0) then
    (match numP (sub l i (runEnd l (numAt l i))) with | none => .err 31 | some n => .go (some ⟨3, [], n, i⟩) (runEnd l (numAt l i)))
  else if signB (l.getD i 0) then .go (some ⟨4, sub l i (i + 1), 0, i⟩) (i + 1)
  else .err 30

inductive Scans (l : List UInt8) : Nat → List Tok → Res → Prop
  | done {i ts} (h : l.length ≤ i) : Scans l i ts (.ok (ts ++ [⟨5, [], 0, l.length⟩]))
  | err {i ts e} (h : i < l.length) (hs : stepS l i = .err e) : Scans l i ts (.err e i)
  | go {i ts t j R} (h : i < l.length) (hs : stepS l i = .go t j) (hr : Scans l j (ts ++ t.toList) R) : Scans l i ts R

theorem Scans.det {l : List UInt8} {i : Nat} {ts : List Tok} {R R' : Res} (h : Scans l i ts R) (h' : Scans l i ts R') : R = R' := by
  induction h with
  | done h => cases h' with
    | done _ => rfl
    | err h2 _ => omega
    | go h2 _ _ => omega
  | err h hs => cases h' with
    | done h2 => omega
    | err h2 hs2 => rw [hs] at hs2; cases hs2; rfl
    | go h2 hs2 _ => rw [hs] at hs2; cases hs2
  | go h hs hr ih => cases h' with
    | done h2 => omega
    | err h2 hs2 => rw [hs] at hs2; cases hs2
    | go h2 hs2 hr2 => rw [hs] at hs2; cases hs2; exact ih hr2

theorem getD_lt {l : List UInt8} {i : Nat} (h : i < l.length) : l.getD i 0 = l[i] := by simp [List.getD, h]
theorem getD_ge {l : List UInt8} {i : Nat} (h : l.length ≤ i) : l.getD i 0 = 0 := by simp [List.getD, h]
theorem drop_cons {l : List UInt8} {i : Nat} (h : i < l.length) : l.drop i = l.getD i 0 :: l.drop (i + 1) := by
  rw [getD_lt h]; exact List.drop_eq_getElem_cons h

theorem runB_zero : runB 0 = false := by decide
theorem digB_zero : digB 0 = false := by decide

theorem runEnd_stop {l : List UInt8} {i : Nat} (h : runB (l.getD i 0) = false) : runEnd l i = i := by
  unfold runEnd
  by_cases hl : i < l.length
  · rw [drop_cons hl, List.takeWhile_cons_of_neg (by rw [h]; decide)]; rfl
  · rw [List.drop_eq_nil_of_le (by omega)]; rfl

theorem runEnd_go {l : List UInt8} {i : Nat} (h : runB (l.getD i 0) = true) : runEnd l i = runEnd l (i + 1) := by
  unfold runEnd
  by_cases hl : i < l.length
  · rw [drop_cons hl, List.takeWhile_cons_of_pos h, List.length_cons]; omega
  · rw [getD_ge (by omega)] at h; simp [runB_zero] at h

theorem runEnd_to {l : List UInt8} {i k : Nat} (hik : i ≤ k) (h : ∀ j, i ≤ j → j < k → runB (l.getD j 0) = true) : runEnd l i = runEnd l k := by
  obtain ⟨d, rfl⟩ : ∃ d, k = i + d := ⟨k - i, by omega⟩
  clear hik
  induction d generalizing i with
  | zero => rfl
  | succ d ih =>
    rw [runEnd_go (h i (by omega) (by omega)), ih fun j h1 h2 => h j (by omega) (by omega)]
    congr 1; omega

theorem runEnd_le {l : List UInt8} {i : Nat} (h : i ≤ l.length) : i ≤ runEnd l i ∧ runEnd l i ≤ l.length := by
  unfold runEnd
  have := (List.takeWhile_sublist (p := runB) (l := l.drop i)).length_le
  simp at this
  omega

theorem cend_none_of {l : List UInt8} {i : Nat} (h : l.length ≤ i + 1) : cend l i = none := by
  unfold cend
  have : (l.drop i).length ≤ 1 := by simp; omega
  match hd : l.drop i with
  | [] => rfl
  | [_] => rfl
  | a :: b :: r => rw [hd] at this; simp at this

theorem cend_here {l : List UInt8} {i : Nat} (h1 : l.getD i 0 = 42) (h2 : l.getD (i + 1) 0 = 47) : cend l i = some (i + 2) := by
  have hl : i + 1 < l.length := by
    rcases Nat.lt_or_ge (i + 1) l.length with h | h
    · exact h
    · rw [getD_ge h] at h2; cases h2
  unfold cend
  rw [drop_cons (by omega), drop_cons hl, h1, h2]; rfl

theorem cend_next {l : List UInt8} {i : Nat} (h : ¬ (l.getD i 0 = 42 ∧ l.getD (i + 1) 0 = 47)) : cend l i = cend l (i + 1) := by
  rcases Nat.lt_or_ge (i + 1) l.length with hl | hl
  · unfold cend
    rw [drop_cons (i := i) (by omega), drop_cons hl]
    rw [cendL, if_neg h]
    cases cendL (l.getD (i + 1) 0 :: l.drop (i + 1 + 1)) with
    | none => rfl
    | some k => simp; omega
  · rw [cend_none_of hl, cend_none_of (by omega)]

/-- what a state of the machine says of the source -/
def Fits (l : List UInt8) (at_ st frm : Nat) : Prop :=
  match st with
  | 0 => True
  | 1 => frm + 1 = at_ ∧ l.getD frm 0 = 47
  | 2 => frm + 2 ≤ at_ ∧ l.getD frm 0 = 47 ∧ l.getD (frm + 1) 0 = 42 ∧ cend l (frm + 2) = cend l at_
  | 3 => frm + 3 ≤ at_ ∧ l.getD frm 0 = 47 ∧ l.getD (frm + 1) 0 = 42 ∧ cend l (frm + 2) = cend l (at_ - 1) ∧ l.getD (at_ - 1) 0 = 42
  | 4 => frm + 1 = at_ ∧ l.getD frm 0 = 45
  | 5 => frm < at_ ∧ numAt l frm < at_ ∧ digB (l.getD (numAt l frm) 0) = true ∧ (∀ j, numAt l frm ≤ j → j < at_ → runB (l.getD j 0) = true)
  | 6 => frm < at_ ∧ letB (l.getD frm 0) = true ∧ (∀ j, frm ≤ j → j < at_ → runB (l.getD j 0) = true)
  | 7 => frm + 1 = at_ ∧ signB (l.getD frm 0) = true
  | 8 => frm + 1 = at_ ∧ beginP (l.getD frm 0) = 8
  | _ => False

def posOf (at_ st frm : Nat) : Nat := if st = 0 then at_ else frm

theorem all_bytes (p : UInt8 → Bool) (h : (List.range 256).all (fun n => p (UInt8.ofNat n)) = true) (c : UInt8) : p c = true := by
  have hc : c.toNat < 256 := c.toNat_lt
  have := List.all_eq_true.1 h c.toNat (List.mem_range.2 hc)
  rwa [show UInt8.ofNat c.toNat = c by simp] at this

theorem let_not {c : UInt8} (h : letB c = true) : blankB c = false ∧ c ≠ 47 ∧ digB c = false ∧ c ≠ 45 ∧ signB c = false ∧ runB c = true := by
  have := all_bytes (fun c => decide (letB c = true → blankB c = false ∧ c ≠ 47 ∧ digB c = false ∧ c ≠ 45 ∧ signB c = false ∧ runB c = true)) (by decide +kernel) c
  exact of_decide_eq_true this h
theorem dig_not {c : UInt8} (h : digB c = true) : blankB c = false ∧ c ≠ 47 ∧ letB c = false ∧ c ≠ 45 ∧ signB c = false ∧ runB c = true := by
  have := all_bytes (fun c => decide (digB c = true → blankB c = false ∧ c ≠ 47 ∧ letB c = false ∧ c ≠ 45 ∧ signB c = false ∧ runB c = true)) (by decide +kernel) c
  exact of_decide_eq_true this h
theorem sign_not {c : UInt8} (h : signB c = true) : blankB c = false ∧ c ≠ 47 ∧ letB c = false ∧ c ≠ 45 ∧ digB c = false ∧ runB c = false := by
  have := all_bytes (fun c => decide (signB c = true → blankB c = false ∧ c ≠ 47 ∧ letB c = false ∧ c ≠ 45 ∧ digB c = false ∧ runB c = false)) (by decide +kernel) c
  exact of_decide_eq_true this h
theorem begin_8 {c : UInt8} (h : beginP c = 8) : blankB c = false ∧ letB c = false ∧ digB c = false ∧ signB c = false ∧ c ≠ 45 ∧ c ≠ 47 := by
  have := all_bytes (fun c => decide (beginP c = 8 → blankB c = false ∧ letB c = false ∧ digB c = false ∧ signB c = false ∧ c ≠ 45 ∧ c ≠ 47)) (by decide +kernel) c
  exact of_decide_eq_true this h
theorem begin_cases (c : UInt8) : (beginP c = 0 ∧ blankB c = true) ∨ (beginP c = 6 ∧ letB c = true) ∨ (beginP c = 5 ∧ digB c = true) ∨ (beginP c = 7 ∧ signB c = true) ∨ (beginP c = 4 ∧ c = 45) ∨ (beginP c = 1 ∧ c = 47) ∨ beginP c = 8 := by
  have := all_bytes (fun c => decide ((beginP c = 0 ∧ blankB c = true) ∨ (beginP c = 6 ∧ letB c = true) ∨ (beginP c = 5 ∧ digB c = true) ∨ (beginP c = 7 ∧ signB c = true) ∨ (beginP c = 4 ∧ c = 45) ∨ (beginP c = 1 ∧ c = 47) ∨ beginP c = 8)) (by decide +kernel) c
  exact of_decide_eq_true this

theorem sub_length {l : List UInt8} {i j : Nat} (hi : i ≤ j) (hj : j ≤ l.length) : (sub l i j).length = j - i := by
  unfold sub; simp; omega

/-- a state right behind its first byte -/
theorem Fits.first {l : List UInt8} {i : Nat} : Fits l (i + 1) (beginP (l.getD i 0)) i := by
  rcases begin_cases (l.getD i 0) with ⟨h, _⟩ | ⟨h, hc⟩ | ⟨h, hc⟩ | ⟨h, hc⟩ | ⟨h, hc⟩ | ⟨h, hc⟩ | h
  · rw [h]; trivial
  · rw [h]; exact ⟨by omega, hc, fun j h1 h2 => by rw [show j = i by omega]; exact (let_not hc).2.2.2.2.2⟩
  · rw [h]
    have hn : numAt l i = i := by unfold numAt; rw [if_neg (dig_not hc).2.2.2.1]
    exact ⟨by omega, by rw [hn]; omega, by rw [hn]; exact hc, fun j h1 h2 => by rw [hn] at h1; rw [show j = i by omega]; exact (dig_not hc).2.2.2.2.2⟩
  · rw [h]; exact ⟨rfl, hc⟩
  · rw [h]; exact ⟨rfl, hc⟩
  · rw [h]; exact ⟨rfl, hc⟩
  · rw [h]; exact ⟨rfl, h⟩

/-- going on keeps the state's word (but for a comment's end) -/
theorem Fits.on {l : List UInt8} {at_ st frm : Nat} (h : Fits l at_ st frm) (hg : (goOnP st (l.getD at_ 0)).2 = true) :
    ((goOnP st (l.getD at_ 0)).1 = 0 ∧ st = 3 ∧ stepS l frm = .go none (at_ + 1)) ∨ (st ≠ 0 ∧ (goOnP st (l.getD at_ 0)).1 ≠ 0 ∧ Fits l (at_ + 1) (goOnP st (l.getD at_ 0)).1 frm) := by
  match st, h with
  | 0, _ => simp [goOnP] at hg
  | 1, ⟨h1, h2⟩ =>
    subst h1
    have hc : l.getD (frm + 1) 0 = 42 := by simpa [goOnP] using hg
    refine .inr ⟨by decide, by simp [goOnP], ?_⟩
    show Fits l (frm + 1 + 1) 2 frm
    exact ⟨by omega, h2, hc, rfl⟩
  | 2, ⟨h1, h2, h3, h4⟩ =>
    refine .inr ⟨by decide, ?_⟩
    by_cases hc : l.getD at_ 0 = 42
    · have e : (goOnP 2 (l.getD at_ 0)).1 = 3 := by simp only [goOnP, hc]; rfl
      rw [e]
      exact ⟨by decide, by omega, h2, h3, h4, hc⟩
    · have e : (goOnP 2 (l.getD at_ 0)).1 = 2 := by
        unfold goOnP; simp only [beq_eq_false_iff_ne.2 hc]; simp
      rw [e]
      exact ⟨by decide, by omega, h2, h3, by rw [h4]; exact cend_next fun h => hc h.1⟩
  | 3, ⟨h1, h2, h3, h4, h5⟩ =>
    by_cases hc : l.getD at_ 0 = 42
    · have e : (goOnP 3 (l.getD at_ 0)).1 = 3 := by simp only [goOnP, hc]; rfl
      rw [e]
      refine .inr ⟨by decide, by decide, by omega, h2, h3, ?_, hc⟩
      rw [h4, show at_ + 1 - 1 = at_ - 1 + 1 by omega]
      refine cend_next fun h => ?_
      rw [show at_ - 1 + 1 = at_ by omega, hc] at h
      exact absurd h.2 (by decide)
    · by_cases hs : l.getD at_ 0 = 47
      · have e : (goOnP 3 (l.getD at_ 0)).1 = 0 := by simp only [goOnP, hs]; rfl
        refine .inl ⟨e, rfl, ?_⟩
        unfold stepS
        rw [if_neg (by rw [h2]; decide), if_pos ⟨h2, h3⟩, h4, cend_here h5 (by rw [show at_ - 1 + 1 = at_ by omega]; exact hs)]
        simp only
        rw [show at_ - 1 + 2 = at_ + 1 by omega]
      · have e : (goOnP 3 (l.getD at_ 0)).1 = 2 := by
          unfold goOnP; simp only [beq_eq_false_iff_ne.2 hc, beq_eq_false_iff_ne.2 hs]; simp
        rw [e]
        refine .inr ⟨by decide, by decide, by omega, h2, h3, ?_⟩
        rw [h4]
        have e1 : cend l (at_ - 1) = cend l (at_ - 1 + 1) := cend_next fun h => hs (by rw [← h.2]; congr 1; omega)
        rw [e1, show at_ - 1 + 1 = at_ by omega]
        exact cend_next fun h => hc h.1
  | 4, ⟨h1, h2⟩ =>
    subst h1
    have hc : digB (l.getD (frm + 1) 0) = true := by simpa [goOnP] using hg
    have hn : numAt l frm = frm + 1 := by unfold numAt; rw [if_pos h2]
    refine .inr ⟨by decide, by simp [goOnP], ?_⟩
    show Fits l (frm + 1 + 1) 5 frm
    exact ⟨by omega, by omega, by rw [hn]; exact hc, fun j h3 h4 => by rw [show j = frm + 1 by omega]; exact (dig_not hc).2.2.2.2.2⟩
  | 5, ⟨h1, h2, h3, h4⟩ =>
    have hc : runB (l.getD at_ 0) = true := by simpa [goOnP] using hg
    refine .inr ⟨by decide, by simp [goOnP], ?_⟩
    show Fits l (at_ + 1) 5 frm
    exact ⟨by omega, by omega, h3, fun j h5 h6 => by
      rcases Nat.lt_or_ge j at_ with h7 | h7
      · exact h4 j h5 h7
      · rw [show j = at_ by omega]; exact hc⟩
  | 6, ⟨h1, h3, h4⟩ =>
    have hc : runB (l.getD at_ 0) = true := by simpa [goOnP] using hg
    refine .inr ⟨by decide, by simp [goOnP], ?_⟩
    show Fits l (at_ + 1) 6 frm
    exact ⟨by omega, h3, fun j h5 h6 => by
      rcases Nat.lt_or_ge j at_ with h7 | h7
      · exact h4 j h5 h7
      · rw [show j = at_ by omega]; exact hc⟩
  | 7, _ => simp [goOnP] at hg
  | 8, _ => simp [goOnP] at hg
  | n + 9, h => exact h.elim

/-- what ends is a step -/
theorem Fits.stop {l : List UInt8} {at_ st frm : Nat} (h : Fits l at_ st frm) (h0 : st ≠ 0) (hl : at_ ≤ l.length) (hg : (goOnP st (l.getD at_ 0)).2 = false ∨ at_ = l.length) :
    frm < l.length ∧ stepS l frm = if (endP l st frm at_).1 = 0 then .go (endP l st frm at_).2 at_ else .err (endP l st frm at_).1 := by
  match st, h with
  | 0, _ => exact absurd rfl h0
  | 1, ⟨h1, h2⟩ =>
    subst h1
    have hc : l.getD (frm + 1) 0 ≠ 42 := by
      rcases hg with hg | hg
      · simpa [goOnP] using hg
      · rw [hg, getD_ge (Nat.le_refl _)]; decide
    refine ⟨by omega, ?_⟩
    have hn : numAt l frm = frm := by unfold numAt; rw [if_neg (by rw [h2]; decide)]
    unfold stepS
    rw [hn, h2, if_neg (by decide), if_neg (fun h => hc h.2), if_neg (by decide), if_neg (by decide), if_neg (by decide)]
    rfl
  | 2, ⟨h1, h2, h3, h4⟩ =>
    have hg : at_ = l.length := by
      rcases hg with hg | hg
      · simp [goOnP] at hg
      · exact hg
    refine ⟨by omega, ?_⟩
    unfold stepS
    rw [if_neg (by rw [h2]; decide), if_pos ⟨h2, h3⟩, h4, cend_none_of (by omega)]
    rfl
  | 3, ⟨h1, h2, h3, h4, h5⟩ =>
    have hg : at_ = l.length := by
      rcases hg with hg | hg
      · simp [goOnP] at hg
      · exact hg
    refine ⟨by omega, ?_⟩
    unfold stepS
    rw [if_neg (by rw [h2]; decide), if_pos ⟨h2, h3⟩, h4, cend_none_of (by omega)]
    rfl
  | 4, ⟨h1, h2⟩ =>
    subst h1
    have hc : digB (l.getD (frm + 1) 0) = false := by
      rcases hg with hg | hg
      · simpa [goOnP] using hg
      · rw [hg, getD_ge (Nat.le_refl _)]; decide
    refine ⟨by omega, ?_⟩
    have hn : numAt l frm = frm + 1 := by unfold numAt; rw [if_pos h2]
    unfold stepS
    rw [hn, h2, if_neg (by decide), if_neg (fun h => absurd h.1 (by decide)), if_neg (by decide), if_neg (by rw [hc]; decide), if_neg (by decide)]
    rfl
  | 5, ⟨h1, h2, h3, h4⟩ =>
    have hc : runB (l.getD at_ 0) = false := by
      rcases hg with hg | hg
      · simpa [goOnP] using hg
      · rw [hg, getD_ge (Nat.le_refl _)]; decide
    have he : runEnd l (numAt l frm) = at_ := by rw [runEnd_to (by omega) h4, runEnd_stop hc]
    have hb : blankB (l.getD frm 0) = false ∧ l.getD frm 0 ≠ 47 ∧ letB (l.getD frm 0) = false := by
      by_cases h45 : l.getD frm 0 = 45
      · rw [h45]; decide
      · have hn : numAt l frm = frm := by unfold numAt; rw [if_neg h45]
        rw [hn] at h3
        exact ⟨(dig_not h3).1, (dig_not h3).2.1, (dig_not h3).2.2.1⟩
    refine ⟨by omega, ?_⟩
    unfold stepS
    rw [if_neg (by rw [hb.1]; decide), if_neg (fun h => hb.2.1 h.1), if_neg (by rw [hb.2.2]; decide), if_pos h3, he]
    cases hn : numP (sub l frm at_) with
    | none => simp [endP, hn]
    | some n => simp [endP, hn]
  | 6, ⟨h1, h3, h4⟩ =>
    have hc : runB (l.getD at_ 0) = false := by
      rcases hg with hg | hg
      · simpa [goOnP] using hg
      · rw [hg, getD_ge (Nat.le_refl _)]; decide
    have he : runEnd l frm = at_ := by rw [runEnd_to (by omega) h4, runEnd_stop hc]
    have hb := let_not h3
    refine ⟨by omega, ?_⟩
    unfold stepS
    rw [if_neg (by rw [hb.1]; decide), if_neg (fun h => hb.2.1 h.1), if_pos h3, he]
    have hs := sub_length (l := l) (i := frm) (j := at_) (by omega) hl
    by_cases h32 : 32 < at_ - frm
    · rw [if_pos h32]
      have : endP l 6 frm at_ = (32, none) := by simp [endP, hs, h32]
      rw [this]; rfl
    · rw [if_neg h32]
      have : endP l 6 frm at_ = (0, some ⟨if isWordP (sub l frm at_) then 2 else 1, sub l frm at_, 0, frm⟩) := by simp [endP, hs, h32]
      rw [this]; rfl
  | 7, ⟨h1, h3⟩ =>
    subst h1
    have hb := sign_not h3
    have hn : numAt l frm = frm := by unfold numAt; rw [if_neg hb.2.2.2.1]
    refine ⟨by omega, ?_⟩
    unfold stepS
    rw [hn, if_neg (by rw [hb.1]; decide), if_neg (fun h => hb.2.1 h.1), if_neg (by rw [hb.2.2.1]; decide), if_neg (by rw [hb.2.2.2.2.1]; decide), if_pos h3]
    rfl
  | 8, ⟨h1, h3⟩ =>
    subst h1
    have hb := begin_8 h3
    have hn : numAt l frm = frm := by unfold numAt; rw [if_neg hb.2.2.2.2.1]
    refine ⟨by omega, ?_⟩
    unfold stepS
    rw [hn, if_neg (by rw [hb.1]; decide), if_neg (fun h => hb.2.2.2.2.2 h.1), if_neg (by rw [hb.2.1]; decide), if_neg (by rw [hb.2.2.1]; decide), if_neg (by rw [hb.2.2.2.1]; decide)]
    rfl
  | n + 9, h => exact h.elim

theorem mach_scans {l : List UInt8} : ∀ (r : List UInt8) (at_ st frm : Nat) (ts : List Tok), l.drop at_ = r → at_ ≤ l.length → Fits l at_ st frm → Scans l (posOf at_ st frm) ts (machP l r at_ st frm ts)
  | [], at_, st, frm, ts, hr, hl, hf => by
    have he : at_ = l.length := by have := List.drop_eq_nil_iff.1 hr; omega
    by_cases h0 : st = 0
    · subst h0
      have : machP l [] at_ 0 frm ts = .ok (ts ++ [⟨5, [], 0, l.length⟩]) := by simp [machP, endP]
      rw [this]
      exact .done (by unfold posOf; simp; omega)
    · obtain ⟨h1, h2⟩ := hf.stop h0 hl (.inr he)
      unfold posOf
      rw [if_neg h0]
      unfold machP
      split
      · rename_i h3
        rw [if_pos h3] at h2
        exact .go h1 h2 (.done (by omega))
      · rename_i h3
        rw [if_neg h3] at h2
        exact .err h1 h2
  | c :: r, at_, st, frm, ts, hr, hl, hf => by
    have hlt : at_ < l.length := by
      rcases Nat.lt_or_ge at_ l.length with h | h
      · exact h
      · rw [List.drop_eq_nil_of_le h] at hr; cases hr
    rw [drop_cons hlt] at hr
    obtain ⟨hc, hr⟩ := List.cons.inj hr
    rw [machP]
    by_cases hg : (goOnP st c).2 = true
    · rw [if_pos hg]
      rw [← hc] at hg ⊢
      have h1 := hf.on hg
      rcases h1 with ⟨h1, h2, h3⟩ | ⟨h0, h1, h2⟩
      · have ih := mach_scans r (at_ + 1) (goOnP st (l.getD at_ 0)).1 frm ts hr (by omega) (by rw [h1]; trivial)
        rw [h1] at ih ⊢
        subst h2
        have hf' : frm + 3 ≤ at_ := hf.1
        refine .go (by unfold posOf; simp; omega) (by unfold posOf; simp; exact h3) ?_
        simpa [posOf] using ih
      · have ih := mach_scans r (at_ + 1) (goOnP st (l.getD at_ 0)).1 frm ts hr (by omega) h2
        unfold posOf at ih ⊢
        rw [if_neg h1] at ih
        rw [if_neg h0]
        exact ih
    · rw [if_neg hg]
      have hg' : (goOnP st (l.getD at_ 0)).2 = false := by rw [hc]; simpa using hg
      have ih := fun ts => mach_scans r (at_ + 1) (beginP (l.getD at_ 0)) at_ ts hr (by omega) Fits.first
      have step : ∀ ts, Scans l at_ ts (machP l r (at_ + 1) (beginP (l.getD at_ 0)) at_ ts) := fun ts => by
        by_cases hb : beginP (l.getD at_ 0) = 0
        · have i1 := ih ts
          rw [hb] at i1 ⊢
          have hbl : blankB (l.getD at_ 0) = true := by
            rcases begin_cases (l.getD at_ 0) with ⟨h, h'⟩ | ⟨h, _⟩ | ⟨h, _⟩ | ⟨h, _⟩ | ⟨h, _⟩ | ⟨h, _⟩ | h
            · exact h'
            all_goals (rw [hb] at h; cases h)
          refine .go hlt (by unfold stepS; rw [if_pos hbl]) ?_
          simpa [posOf] using i1
        · have i1 := ih ts
          unfold posOf at i1
          rwa [if_neg hb] at i1
      rw [hc] at step
      by_cases h0 : st = 0
      · subst h0
        have e : endP l 0 frm at_ = (0, none) := by simp [endP]
        rw [e]
        simp only [if_pos]
        have := step (ts ++ (none : Option Tok).toList)
        simpa [posOf] using this
      · obtain ⟨h1, h2⟩ := hf.stop h0 (by omega) (.inl hg')
        unfold posOf
        rw [if_neg h0]
        split
        · rename_i h3
          rw [if_pos h3] at h2
          exact .go h1 h2 (step _)
        · rename_i h3
          rw [if_neg h3] at h2
          exact .err h1 h2

theorem scanP_scans {l : List UInt8} (h : l.length ≤ 16000) : Scans l 0 [] (scanP l) := by
  unfold scanP
  rw [if_neg (by omega)]
  exact mach_scans l 0 0 0 [] rfl (Nat.zero_le _) trivial

end Go.Proofs.Ythnnmgiihpdblab
