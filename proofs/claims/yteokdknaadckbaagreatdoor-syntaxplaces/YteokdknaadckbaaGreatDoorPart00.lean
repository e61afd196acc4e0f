/- Lex, plainly: bytes, runs, numbers, the scanner as a machine, and as steps from token to token. The program's parser as plain mathematics: tokens taken from the front of a list; what is wrong first, and where. The program's parser in memory: its small functions. The program's parser: what is wrong, what comes, one token taken. The program's parser: a token taken, a token of a kind. The program's parser: a token of a kind, a name. The program's parser: a token of a kind, a name, as the plain parser takes them. Trees in memory: each list owns its block. The program's parser: a node of a kind alone, a number, a name with its kids. The program's parser: a name with its kids. The program's parser: words and signs wanted. The program's parser: a number, a reference, a value. The program's parser: a reference, a value. The program's parser: a value, a natural number. -/
import Derived.Test.YteokdknaadckbaaGreatDoorRows
import Derived.WalkKit
import Derived.WalkSpells
import Derived.WalkLawsBesides
import Derived.Below
import Derived.Deep.QuietTactic
import Derived.BigQuiet
import Derived.Deep.RegionWith
import Derived.BigRegion
import Derived.Deep.AppendLies
import Derived.Laws.OwnMore
namespace Go.Proofs.YteokdknaadckbaaGreatDoor

def letterP (c : Int) : Bool := (decide (97 ≤ c) && decide (c ≤ 122)) || (decide (65 ≤ c) && decide (c ≤ 90))
def digitP (c : Int) : Bool := decide (48 ≤ c) && decide (c ≤ 57)
def runP (c : Int) : Bool := letterP c || digitP c || c == 95

def runB (c : UInt8) : Bool := runP (c.toNat : Int)
def letB (c : UInt8) : Bool := letterP (c.toNat : Int)
def digB (c : UInt8) : Bool := digitP (c.toNat : Int)
def blankB (c : UInt8) : Bool := c == 32 || c == 9 || c == 10 || c == 13
def signL : List UInt8 := [123, 125, 40, 41, 91, 93, 60, 62, 61, 59, 58, 44, 42]
def signB (c : UInt8) : Bool := signL.contains c

def wordsL : List (List UInt8) := [[98, 111, 111, 108], [99, 97, 115, 101], [99, 111, 110, 115, 116], [100, 101, 102, 97, 117, 108, 116], [100, 111, 117, 98, 108, 101], [101, 110, 117, 109], [102, 108, 111, 97, 116], [104, 121, 112, 101, 114], [105, 110, 116], [111, 112, 97, 113, 117, 101], [112, 114, 111, 103, 114, 97, 109], [113, 117, 97, 100, 114, 117, 112, 108, 101], [115, 116, 114, 105, 110, 103], [115, 116, 114, 117, 99, 116], [115, 119, 105, 116, 99, 104], [116, 121, 112, 101, 100, 101, 102], [117, 110, 105, 111, 110], [117, 110, 115, 105, 103, 110, 101, 100], [118, 101, 114, 115, 105, 111, 110], [118, 111, 105, 100]]
def isWordP (l : List UInt8) : Bool := wordsL.contains l

structure Tok where
  kind : Int
  text : List UInt8
  num : Int
  at_ : Nat
deriving DecidableEq

inductive Res where
  | ok (l : List Tok)
  | err (e : Int) (i : Nat)
deriving DecidableEq

/-- what a digit says; 16: it is none -/
def digV (c : UInt8) : Nat :=
  if digB c then c.toNat - 48 else if 97 ≤ c.toNat ∧ c.toNat ≤ 102 then c.toNat - 97 + 10 else if 65 ≤ c.toNat ∧ c.toNat ≤ 70 then c.toNat - 65 + 10 else 16

def reckP (base most : Nat) : Nat → List UInt8 → Option Nat
  | n, [] => some n
  | n, c :: r => if base ≤ digV c then none else if most < n * base + digV c then none else reckP base most (n * base + digV c) r

def reckV (ds : List UInt8) (base most : Nat) : Option Nat := if ds = [] then none else reckP base most 0 ds

def formP (r : List UInt8) : List UInt8 × Nat :=
  if r.getD 0 0 ≠ 48 then (r, 10) else if 1 < r.length ∧ r.getD 1 0 = 120 then (r.drop 2, 16) else (r, 8)

def numP (t : List UInt8) : Option Int :=
  if t.getD 0 0 ≠ 45 then (reckV (formP t).1 (formP t).2 4294967295).map (fun (n : Nat) => (n : Int))
  else if (formP (t.drop 1)).2 ≠ 10 then none
  else (reckV (formP (t.drop 1)).1 10 2147483648).map (fun (n : Nat) => -(n : Int))

def beginP (c : UInt8) : Nat :=
  if blankB c then 0 else if letB c then 6 else if digB c then 5 else if signB c then 7 else if c == 45 then 4 else if c == 47 then 1 else 8

def goOnP (st : Nat) (c : UInt8) : Nat × Bool :=
  if st = 1 then (2, c == 42)
  else if st = 2 ∨ st = 3 then (if c == 42 then 3 else if c == 47 && st == 3 then 0 else 2, true)
  else if st = 4 then (5, digB c)
  else if st = 5 ∨ st = 6 then (st, runB c)
  else (st, false)

def sub (l : List UInt8) (i j : Nat) : List UInt8 := (l.drop i).take (j - i)

/-- what ends: 0 and a token or none; else what is wrong -/
def endP (l : List UInt8) (st frm at_ : Nat) : Int × Option Tok :=
  if st = 8 ∨ st = 1 ∨ st = 4 then (30, none)
  else if st = 2 ∨ st = 3 then (33, none)
  else if st = 5 then (match numP (sub l frm at_) with | some n => (0, some ⟨3, [], n, frm⟩) | none => (31, none))
  else if st = 6 then (if 32 < (sub l frm at_).length then (32, none) else (0, some ⟨if isWordP (sub l frm at_) then 2 else 1, sub l frm at_, 0, frm⟩))
  else if st = 7 then (0, some ⟨4, sub l frm at_, 0, frm⟩)
  else (0, none)

def machP (l : List UInt8) : List UInt8 → Nat → Nat → Nat → List Tok → Res
  | [], at_, st, frm, ts => if (endP l st frm at_).1 = 0 then .ok (ts ++ (endP l st frm at_).2.toList ++ [⟨5, [], 0, l.length⟩]) else .err (endP l st frm at_).1 frm
  | c :: r, at_, st, frm, ts =>
    if (goOnP st c).2 then machP l r (at_ + 1) (goOnP st c).1 frm ts
    else if (endP l st frm at_).1 = 0 then machP l r (at_ + 1) (beginP c) at_ (ts ++ (endP l st frm at_).2.toList)
    else .err (endP l st frm at_).1 frm

def scanP (l : List UInt8) : Res := if 16000 < l.length then .err 34 16000 else machP l l 0 0 0 []

/- from token to token -/
def runEnd (l : List UInt8) (i : Nat) : Nat := i + ((l.drop i).takeWhile runB).length

def cendL : List UInt8 → Option Nat
  | [] => none
  | [_] => none
  | a :: b :: r => if a = 42 ∧ b = 47 then some 2 else (cendL (b :: r)).map (· + 1)

def cend (l : List UInt8) (i : Nat) : Option Nat := (cendL (l.drop i)).map (i + ·)

inductive Stp where
  | err (e : Int)
  | go (t : Option Tok) (j : Nat)

/-- where a number's digits begin -/
def numAt (l : List UInt8) (i : Nat) : Nat := if l.getD i 0 = 45 then i + 1 else i

def stepS (l : List UInt8) (i : Nat) : Stp :=
  if blankB (l.getD i 0) then .go none (i + 1)
  else if l.getD i 0 = 47 ∧ l.getD (i + 1) 0 = 42 then (match cend l (i + 2) with | none => .err 33 | some j => .go none j)
  else if letB (l.getD i 0) then
    (if 32 < runEnd l i - i then .err 32 else .go (some ⟨if isWordP (sub l i (runEnd l i)) then 2 else 1, sub l i (runEnd l i), 0, i⟩) (runEnd l i))
  else if digB (l.getD (numAt l i) 0) then
    (match numP (sub l i (runEnd l (numAt l i))) with | none => .err 31 | some n => .go (some ⟨3, [], n, i⟩) (runEnd l (numAt l i)))
  else if signB (l.getD i 0) then .go (some ⟨4, sub l i (i + 1), 0, i⟩) (i + 1)
  else .err 30

inductive Scans (l : List UInt8) : Nat → List Tok → Res → Prop
  | done {i ts} (h : l.length ≤ i) : Scans l i ts (.ok (ts ++ [⟨5, [], 0, l.length⟩]))
  | err {i ts e} (h : i < l.length) (hs : stepS l i = .err e) : Scans l i ts (.err e i)
  | go {i ts t j R} (h : i < l.length) (hs : stepS l i = .go t j) (hr : Scans l j (ts ++ t.toList) R) : Scans l i ts R

theorem Scans.det {l : List UInt8} {i : Nat} {ts : List Tok} {R R' : Res} (h : Scans l i ts R) (h' : Scans l i ts R') : R = R' := by
  induction h with
  | done h => cases h' with
    | done _ => rfl
    | err h2 _ => omega
    | go h2 _ _ => omega
  | err h hs => cases h' with
    | done h2 => omega
    | err h2 hs2 => rw [hs] at hs2; cases hs2; rfl
    | go h2 hs2 _ => rw [hs] at hs2; cases hs2
  | go h hs hr ih => cases h' with
    | done h2 => omega
    | err h2 hs2 => rw [hs] at hs2; cases hs2
    | go h2 hs2 hr2 => rw [hs] at hs2; cases hs2; exact ih hr2

theorem getD_lt {l : List UInt8} {i : Nat} (h : i < l.length) : l.getD i 0 = l[i] := by simp [List.getD, h]
theorem getD_ge {l : List UInt8} {i : Nat} (h : l.length ≤ i) : l.getD i 0 = 0 := by simp [List.getD, h]
theorem drop_cons {l : List UInt8} {i : Nat} (h : i < l.length) : l.drop i = l.getD i 0 :: l.drop (i + 1) := by
  rw [getD_lt h]; exact List.drop_eq_getElem_cons h

theorem runB_zero : runB 0 = false := by decide
theorem digB_zero : digB 0 = false := by decide

theorem runEnd_stop {l : List UInt8} {i : Nat} (h : runB (l.getD i 0) = false) : runEnd l i = i := by
  unfold runEnd
  by_cases hl : i < l.length
  · rw [drop_cons hl, List.takeWhile_cons_of_neg (by rw [h]; decide)]; rfl
  · rw [List.drop_eq_nil_of_le (by omega)]; rfl

theorem runEnd_go {l : List UInt8} {i : Nat} (h : runB (l.getD i 0) = true) : runEnd l i = runEnd l (i + 1) := by
  unfold runEnd
  by_cases hl : i < l.length
  · rw [drop_cons hl, List.takeWhile_cons_of_pos h, List.length_cons]; omega
  · rw [getD_ge (by omega)] at h; simp [runB_zero] at h

theorem runEnd_to {l : List UInt8} {i k : Nat} (hik : i ≤ k) (h : ∀ j, i ≤ j → j < k → runB (l.getD j 0) = true) : runEnd l i = runEnd l k := by
  obtain ⟨d, rfl⟩ : ∃ d, k = i + d := ⟨k - i, by omega⟩
  clear hik
  induction d generalizing i with
  | zero => rfl
  | succ d ih =>
    rw [runEnd_go (h i (by omega) (by omega)), ih fun j h1 h2 => h j (by omega) (by omega)]
    congr 1; omega

theorem runEnd_le {l : List UInt8} {i : Nat} (h : i ≤ l.length) : i ≤ runEnd l i ∧ runEnd l i ≤ l.length := by
  unfold runEnd
  have := (List.takeWhile_sublist (p := runB) (l := l.drop i)).length_le
  simp at this
  omega

theorem cend_none_of {l : List UInt8} {i : Nat} (h : l.length ≤ i + 1) : cend l i = none := by
  unfold cend
  have : (l.drop i).length ≤ 1 := by simp; omega
  match hd : l.drop i with
  | [] => rfl
  | [_] => rfl
  | a :: b :: r => rw [hd] at this; simp at this

theorem cend_here {l : List UInt8} {i : Nat} (h1 : l.getD i 0 = 42) (h2 : l.getD (i + 1) 0 = 47) : cend l i = some (i + 2) := by
  have hl : i + 1 < l.length := by
    rcases Nat.lt_or_ge (i + 1) l.length with h | h
    · exact h
    · rw [getD_ge h] at h2; cases h2
  unfold cend
  rw [drop_cons (by omega), drop_cons hl, h1, h2]; rfl

theorem cend_next {l : List UInt8} {i : Nat} (h : ¬ (l.getD i 0 = 42 ∧ l.getD (i + 1) 0 = 47)) : cend l i = cend l (i + 1) := by
  rcases Nat.lt_or_ge (i + 1) l.length with hl | hl
  · unfold cend
    rw [drop_cons (i := i) (by omega), drop_cons hl]
    rw [cendL, if_neg h]
    cases cendL (l.getD (i + 1) 0 :: l.drop (i + 1 + 1)) with
    | none => rfl
    | some k => simp; omega
  · rw [cend_none_of hl, cend_none_of (by omega)]

/-- what a state of the machine says of the source -/
def Fits (l : List UInt8) (at_ st frm : Nat) : Prop :=
  match st with
  | 0 => True
  | 1 => frm + 1 = at_ ∧ l.getD frm 0 = 47
  | 2 => frm + 2 ≤ at_ ∧ l.getD frm 0 = 47 ∧ l.getD (frm + 1) 0 = 42 ∧ cend l (frm + 2) = cend l at_
  | 3 => frm + 3 ≤ at_ ∧ l.getD frm 0 = 47 ∧ l.getD (frm + 1) 0 = 42 ∧ cend l (frm + 2) = cend l (at_ - 1) ∧ l.getD (at_ - 1) 0 = 42
  | 4 => frm + 1 = at_ ∧ l.getD frm 0 = 45
  | 5 => frm < at_ ∧ numAt l frm < at_ ∧ digB (l.getD (numAt l frm) 0) = true ∧ (∀ j, numAt l frm ≤ j → j < at_ → runB (l.getD j 0) = true)
  | 6 => frm < at_ ∧ letB (l.getD frm 0) = true ∧ (∀ j, frm ≤ j → j < at_ → runB (l.getD j 0) = true)
  | 7 => frm + 1 = at_ ∧ signB (l.getD frm 0) = true
  | 8 => frm + 1 = at_ ∧ beginP (l.getD frm 0) = 8
  | _ => False

def posOf (at_ st frm : Nat) : Nat := if st = 0 then at_ else frm

theorem all_bytes (p : UInt8 → Bool) (h : (List.range 256).all (fun n => p (UInt8.ofNat n)) = true) (c : UInt8) : p c = true := by
  have hc : c.toNat < 256 := c.toNat_lt
  have := List.all_eq_true.1 h c.toNat (List.mem_range.2 hc)
  rwa [show UInt8.ofNat c.toNat = c by simp] at this

theorem let_not {c : UInt8} (h : letB c = true) : blankB c = false ∧ c ≠ 47 ∧ digB c = false ∧ c ≠ 45 ∧ signB c = false ∧ runB c = true := by
  have := all_bytes (fun c => decide (letB c = true → blankB c = false ∧ c ≠ 47 ∧ digB c = false ∧ c ≠ 45 ∧ signB c = false ∧ runB c = true)) (by decide +kernel) c
  exact of_decide_eq_true this h
theorem dig_not {c : UInt8} (h : digB c = true) : blankB c = false ∧ c ≠ 47 ∧ letB c = false ∧ c ≠ 45 ∧ signB c = false ∧ runB c = true := by
  have := all_bytes (fun c => decide (digB c = true → blankB c = false ∧ c ≠ 47 ∧ letB c = false ∧ c ≠ 45 ∧ signB c = false ∧ runB c = true)) (by decide +kernel) c
  exact of_decide_eq_true this h
theorem sign_not {c : UInt8} (h : signB c = true) : blankB c = false ∧ c ≠ 47 ∧ letB c = false ∧ c ≠ 45 ∧ digB c = false ∧ runB c = false := by
  have := all_bytes (fun c => decide (signB c = true → blankB c = false ∧ c ≠ 47 ∧ letB c = false ∧ c ≠ 45 ∧ digB c = false ∧ runB c = false)) (by decide +kernel) c
  exact of_decide_eq_true this h
theorem begin_8 {c : UInt8} (h : beginP c = 8) : blankB c = false ∧ letB c = false ∧ digB c = false ∧ signB c = false ∧ c ≠ 45 ∧ c ≠ 47 := by
  have := all_bytes (fun c => decide (beginP c = 8 → blankB c = false ∧ letB c = false ∧ digB c = false ∧ signB c = false ∧ c ≠ 45 ∧ c ≠ 47)) (by decide +kernel) c
  exact of_decide_eq_true this h
theorem begin_cases (c : UInt8) : (beginP c = 0 ∧ blankB c = true) ∨ (beginP c = 6 ∧ letB c = true) ∨ (beginP c = 5 ∧ digB c = true) ∨ (beginP c = 7 ∧ signB c = true) ∨ (beginP c = 4 ∧ c = 45) ∨ (beginP c = 1 ∧ c = 47) ∨ beginP c = 8 := by
  have := all_bytes (fun c => decide ((beginP c = 0 ∧ blankB c = true) ∨ (beginP c = 6 ∧ letB c = true) ∨ (beginP c = 5 ∧ digB c = true) ∨ (beginP c = 7 ∧ signB c = true) ∨ (beginP c = 4 ∧ c = 45) ∨ (beginP c = 1 ∧ c = 47) ∨ beginP c = 8)) (by decide +kernel) c
  exact of_decide_eq_true this

theorem sub_length {l : List UInt8} {i j : Nat} (hi : i ≤ j) (hj : j ≤ l.length) : (sub l i j).length = j - i := by
  unfold sub; simp; omega

/-- a state right behind its first byte -/
theorem Fits.first {l : List UInt8} {i : Nat} : Fits l (i + 1) (beginP (l.getD i 0)) i := by
  rcases begin_cases (l.getD i 0) with ⟨h, _⟩ | ⟨h, hc⟩ | ⟨h, hc⟩ | ⟨h, hc⟩ | ⟨h, hc⟩ | ⟨h, hc⟩ | h
  · rw [h]; trivial
  · rw [h]; exact ⟨by omega, hc, fun j h1 h2 => by rw [show j = i by omega]; exact (let_not hc).2.2.2.2.2⟩
  · rw [h]
    have hn : numAt l i = i := by unfold numAt; rw [if_neg (dig_not hc).2.2.2.1]
    exact ⟨by omega, by rw [hn]; omega, by rw [hn]; exact hc, fun j h1 h2 => by rw [hn] at h1; rw [show j = i by omega]; exact (dig_not hc).2.2.2.2.2⟩
  · rw [h]; exact ⟨rfl, hc⟩
  · rw [h]; exact ⟨rfl, hc⟩
  · rw [h]; exact ⟨rfl, hc⟩
  · rw [h]; exact ⟨rfl, h⟩

/-- going on keeps the state's word (but for a comment's end) -/
theorem Fits.on {l : List UInt8} {at_ st frm : Nat} (h : Fits l at_ st frm) (hg : (goOnP st (l.getD at_ 0)).2 = true) :
    ((goOnP st (l.getD at_ 0)).1 = 0 ∧ st = 3 ∧ stepS l frm = .go none (at_ + 1)) ∨ (st ≠ 0 ∧ (goOnP st (l.getD at_ 0)).1 ≠ 0 ∧ Fits l (at_ + 1) (goOnP st (l.getD at_ 0)).1 frm) := by
  match st, h with
  | 0, _ => simp [goOnP] at hg
  | 1, ⟨h1, h2⟩ =>
    subst h1
    have hc : l.getD (frm + 1) 0 = 42 := by simpa [goOnP] using hg
    refine .inr ⟨by decide, by simp [goOnP], ?_⟩
    show Fits l (frm + 1 + 1) 2 frm
    exact ⟨by omega, h2, hc, rfl⟩
  | 2, ⟨h1, h2, h3, h4⟩ =>
    refine .inr ⟨by decide, ?_⟩
    by_cases hc : l.getD at_ 0 = 42
    · have e : (goOnP 2 (l.getD at_ 0)).1 = 3 := by simp only [goOnP, hc]; rfl
      rw [e]
      exact ⟨by decide, by omega, h2, h3, h4, hc⟩
    · have e : (goOnP 2 (l.getD at_ 0)).1 = 2 := by
        unfold goOnP; simp only [beq_eq_false_iff_ne.2 hc]; simp
      rw [e]
      exact ⟨by decide, by omega, h2, h3, by rw [h4]; exact cend_next fun h => hc h.1⟩
  | 3, ⟨h1, h2, h3, h4, h5⟩ =>
    by_cases hc : l.getD at_ 0 = 42
    · have e : (goOnP 3 (l.getD at_ 0)).1 = 3 := by simp only [goOnP, hc]; rfl
      rw [e]
      refine .inr ⟨by decide, by decide, by omega, h2, h3, ?_, hc⟩
      rw [h4, show at_ + 1 - 1 = at_ - 1 + 1 by omega]
      refine cend_next fun h => ?_
      rw [show at_ - 1 + 1 = at_ by omega, hc] at h
      exact absurd h.2 (by decide)
    · by_cases hs : l.getD at_ 0 = 47
      · have e : (goOnP 3 (l.getD at_ 0)).1 = 0 := by simp only [goOnP, hs]; rfl
        refine .inl ⟨e, rfl, ?_⟩
        unfold stepS
        rw [if_neg (by rw [h2]; decide), if_pos ⟨h2, h3⟩, h4, cend_here h5 (by rw [show at_ - 1 + 1 = at_ by omega]; exact hs)]
        simp only
        rw [show at_ - 1 + 2 = at_ + 1 by omega]
      · have e : (goOnP 3 (l.getD at_ 0)).1 = 2 := by
          unfold goOnP; simp only [beq_eq_false_iff_ne.2 hc, beq_eq_false_iff_ne.2 hs]; simp
        rw [e]
        refine .inr ⟨by decide, by decide, by omega, h2, h3, ?_⟩
        rw [h4]
        have e1 : cend l (at_ - 1) = cend l (at_ - 1 + 1) := cend_next fun h => hs (by rw [← h.2]; congr 1; omega)
        rw [e1, show at_ - 1 + 1 = at_ by omega]
        exact cend_next fun h => hc h.1
  | 4, ⟨h1, h2⟩ =>
    subst h1
    have hc : digB (l.getD (frm + 1) 0) = true := by simpa [goOnP] using hg
    have hn : numAt l frm = frm + 1 := by unfold numAt; rw [if_pos h2]
    refine .inr ⟨by decide, by simp [goOnP], ?_⟩
    show Fits l (frm + 1 + 1) 5 frm
    exact ⟨by omega, by omega, by rw [hn]; exact hc, fun j h3 h4 => by rw [show j = frm + 1 by omega]; exact (dig_not hc).2.2.2.2.2⟩
  | 5, ⟨h1, h2, h3, h4⟩ =>
    have hc : runB (l.getD at_ 0) = true := by simpa [goOnP] using hg
    refine .inr ⟨by decide, by simp [goOnP], ?_⟩
    show Fits l (at_ + 1) 5 frm
    exact ⟨by omega, by omega, h3, fun j h5 h6 => by
      rcases Nat.lt_or_ge j at_ with h7 | h7
      · exact h4 j h5 h7
      · rw [show j = at_ by omega]; exact hc⟩
  | 6, ⟨h1, h3, h4⟩ =>
    have hc : runB (l.getD at_ 0) = true := by simpa [goOnP] using hg
    refine .inr ⟨by decide, by simp [goOnP], ?_⟩
    show Fits l (at_ + 1) 6 frm
    exact ⟨by omega, h3, fun j h5 h6 => by
      rcases Nat.lt_or_ge j at_ with h7 | h7
      · exact h4 j h5 h7
      · rw [show j = at_ by omega]; exact hc⟩
  | 7, _ => simp [goOnP] at hg
  | 8, _ => simp [goOnP] at hg
  | n + 9, h => exact h.elim

/-- what ends is a step -/
theorem Fits.stop {l : List UInt8} {at_ st frm : Nat} (h : Fits l at_ st frm) (h0 : st ≠ 0) (hl : at_ ≤ l.length) (hg : (goOnP st (l.getD at_ 0)).2 = false ∨ at_ = l.length) :
    frm < l.length ∧ stepS l frm = if (endP l st frm at_).1 = 0 then .go (endP l st frm at_).2 at_ else .err (endP l st frm at_).1 := by
  match st, h with
  | 0, _ => exact absurd rfl h0
  | 1, ⟨h1, h2⟩ =>
    subst h1
    have hc : l.getD (frm + 1) 0 ≠ 42 := by
      rcases hg with hg | hg
      · simpa [goOnP] using hg
      · rw [hg, getD_ge (Nat.le_refl _)]; decide
    refine ⟨by omega, ?_⟩
    have hn : numAt l frm = frm := by unfold numAt; rw [if_neg (by rw [h2]; decide)]
    unfold stepS
    rw [hn, h2, if_neg (by decide), if_neg (fun h => hc h.2), if_neg (by decide), if_neg (by decide), if_neg (by decide)]
    rfl
  | 2, ⟨h1, h2, h3, h4⟩ =>
    have hg : at_ = l.length := by
      rcases hg with hg | hg
      · simp [goOnP] at hg
      · exact hg
    refine ⟨by omega, ?_⟩
    unfold stepS
    rw [if_neg (by rw [h2]; decide), if_pos ⟨h2, h3⟩, h4, cend_none_of (by omega)]
    rfl
  | 3, ⟨h1, h2, h3, h4, h5⟩ =>
    have hg : at_ = l.length := by
      rcases hg with hg | hg
      · simp [goOnP] at hg
      · exact hg
    refine ⟨by omega, ?_⟩
    unfold stepS
    rw [if_neg (by rw [h2]; decide), if_pos ⟨h2, h3⟩, h4, cend_none_of (by omega)]
    rfl
  | 4, ⟨h1, h2⟩ =>
    subst h1
    have hc : digB (l.getD (frm + 1) 0) = false := by
      rcases hg with hg | hg
      · simpa [goOnP] using hg
      · rw [hg, getD_ge (Nat.le_refl _)]; decide
    refine ⟨by omega, ?_⟩
    have hn : numAt l frm = frm + 1 := by unfold numAt; rw [if_pos h2]
    unfold stepS
    rw [hn, h2, if_neg (by decide), if_neg (fun h => absurd h.1 (by decide)), if_neg (by decide), if_neg (by rw [hc]; decide), if_neg (by decide)]
    rfl
  | 5, ⟨h1, h2, h3, h4⟩ =>
    have hc : runB (l.getD at_ 0) = false := by
      rcases hg with hg | hg
      · simpa [goOnP] using hg
      · rw [hg, getD_ge (Nat.le_refl _)]; decide
    have he : runEnd l (numAt l frm) = at_ := by rw [runEnd_to (by omega) h4, runEnd_stop hc]
    have hb : blankB (l.getD frm 0) = false ∧ l.getD frm 0 ≠ 47 ∧ letB (l.getD frm 0) = false := by
      by_cases h45 : l.getD frm 0 = 45
      · rw [h45]; decide
      · have hn : numAt l frm = frm := by unfold numAt; rw [if_neg h45]
        rw [hn] at h3
        exact ⟨(dig_not h3).1, (dig_not h3).2.1, (dig_not h3).2.2.1⟩
    refine ⟨by omega, ?_⟩
    unfold stepS
    rw [if_neg (by rw [hb.1]; decide), if_neg (fun h => hb.2.1 h.1), if_neg (by rw [hb.2.2]; decide), if_pos h3, he]
    cases hn : numP (sub l frm at_) with
    | none => simp [endP, hn]
    | some n => simp [endP, hn]
  | 6, ⟨h1, h3, h4⟩ =>
    have hc : runB (l.getD at_ 0) = false := by
      rcases hg with hg | hg
      · simpa [goOnP] using hg
      · rw [hg, getD_ge (Nat.le_refl _)]; decide
    have he : runEnd l frm = at_ := by rw [runEnd_to (by omega) h4, runEnd_stop hc]
    have hb := let_not h3
    refine ⟨by omega, ?_⟩
    unfold stepS
    rw [if_neg (by rw [hb.1]; decide), if_neg (fun h => hb.2.1 h.1), if_pos h3, he]
    have hs := sub_length (l := l) (i := frm) (j := at_) (by omega) hl
    by_cases h32 : 32 < at_ - frm
    · rw [if_pos h32]
      have : endP l 6 frm at_ = (32, none) := by simp [endP, hs, h32]
      rw [this]; rfl
    · rw [if_neg h32]
      have : endP l 6 frm at_ = (0, some ⟨if isWordP (sub l frm at_) then 2 else 1, sub l frm at_, 0, frm⟩) := by simp [endP, hs, h32]
      rw [this]; rfl
  | 7, ⟨h1, h3⟩ =>
    subst h1
    have hb := sign_not h3
    have hn : numAt l frm = frm := by unfold numAt; rw [if_neg hb.2.2.2.1]
    refine ⟨by omega, ?_⟩
    unfold stepS
    rw [hn, if_neg (by rw [hb.1]; decide), if_neg (fun h => hb.2.1 h.1), if_neg (by rw [hb.2.2.1]; decide), if_neg (by rw [hb.2.2.2.2.1]; decide), if_pos h3]
    rfl
  | 8, ⟨h1, h3⟩ =>
    subst h1
    have hb := begin_8 h3
    have hn : numAt l frm = frm := by unfold numAt; rw [if_neg hb.2.2.2.2.1]
    refine ⟨by omega, ?_⟩
    unfold stepS
    rw [hn, if_neg (by rw [hb.1]; decide), if_neg (fun h => hb.2.2.2.2.2 h.1), if_neg (by rw [hb.2.1]; decide), if_neg (by rw [hb.2.2.1]; decide), if_neg (by rw [hb.2.2.2.1]; decide)]
    rfl
  | n + 9, h => exact h.elim

theorem mach_scans {l : List UInt8} : ∀ (r : List UInt8) (at_ st frm : Nat) (ts : List Tok), l.drop at_ = r → at_ ≤ l.length → Fits l at_ st frm → Scans l (posOf at_ st frm) ts (machP l r at_ st frm ts)
  | [], at_, st, frm, ts, hr, hl, hf => by
    have he : at_ = l.length := by have := List.drop_eq_nil_iff.1 hr; omega
    by_cases h0 : st = 0
    · subst h0
      have : machP l [] at_ 0 frm ts = .ok (ts ++ [⟨5, [], 0, l.length⟩]) := by simp [machP, endP]
      rw [this]
      exact .done (by unfold posOf; simp; omega)
    · obtain ⟨h1, h2⟩ := hf.stop h0 hl (.inr he)
      unfold posOf
      rw [if_neg h0]
      unfold machP
      split
      · rename_i h3
        rw [if_pos h3] at h2
        exact .go h1 h2 (.done (by omega))
      · rename_i h3
        rw [if_neg h3] at h2
        exact .err h1 h2
  | c :: r, at_, st, frm, ts, hr, hl, hf => by
    have hlt : at_ < l.length := by
      rcases Nat.lt_or_ge at_ l.length with h | h
      · exact h
      · rw [List.drop_eq_nil_of_le h] at hr; cases hr
    rw [drop_cons hlt] at hr
    obtain ⟨hc, hr⟩ := List.cons.inj hr
    rw [machP]
    by_cases hg : (goOnP st c).2 = true
    · rw [if_pos hg]
      rw [← hc] at hg ⊢
      have h1 := hf.on hg
      rcases h1 with ⟨h1, h2, h3⟩ | ⟨h0, h1, h2⟩
      · have ih := mach_scans r (at_ + 1) (goOnP st (l.getD at_ 0)).1 frm ts hr (by omega) (by rw [h1]; trivial)
        rw [h1] at ih ⊢
        subst h2
        have hf' : frm + 3 ≤ at_ := hf.1
        refine .go (by unfold posOf; simp; omega) (by unfold posOf; simp; exact h3) ?_
        simpa [posOf] using ih
      · have ih := mach_scans r (at_ + 1) (goOnP st (l.getD at_ 0)).1 frm ts hr (by omega) h2
        unfold posOf at ih ⊢
        rw [if_neg h1] at ih
        rw [if_neg h0]
        exact ih
    · rw [if_neg hg]
      have hg' : (goOnP st (l.getD at_ 0)).2 = false := by rw [hc]; simpa using hg
      have ih := fun ts => mach_scans r (at_ + 1) (beginP (l.getD at_ 0)) at_ ts hr (by omega) Fits.first
      have step : ∀ ts, Scans l at_ ts (machP l r (at_ + 1) (beginP (l.getD at_ 0)) at_ ts) := fun ts => by
        by_cases hb : beginP (l.getD at_ 0) = 0
        · have i1 := ih ts
          rw [hb] at i1 ⊢
          have hbl : blankB (l.getD at_ 0) = true := by
            rcases begin_cases (l.getD at_ 0) with ⟨h, h'⟩ | ⟨h, _⟩ | ⟨h, _⟩ | ⟨h, _⟩ | ⟨h, _⟩ | ⟨h, _⟩ | h
            · exact h'
            all_goals (rw [hb] at h; cases h)
          refine .go hlt (by unfold stepS; rw [if_pos hbl]) ?_
          simpa [posOf] using i1
        · have i1 := ih ts
          unfold posOf at i1
          rwa [if_neg hb] at i1
      rw [hc] at step
      by_cases h0 : st = 0
      · subst h0
        have e : endP l 0 frm at_ = (0, none) := by simp [endP]
        rw [e]
        simp only [if_pos]
        have := step (ts ++ (none : Option Tok).toList)
        simpa [posOf] using this
      · obtain ⟨h1, h2⟩ := hf.stop h0 (by omega) (.inl hg')
        unfold posOf
        rw [if_neg h0]
        split
        · rename_i h3
          rw [if_pos h3] at h2
          exact .go h1 h2 (step _)
        · rename_i h3
          rw [if_neg h3] at h2
          exact .err h1 h2

theorem scanP_scans {l : List UInt8} (h : l.length ≤ 16000) : Scans l 0 [] (scanP l) := by
  unfold scanP
  rw [if_neg (by omega)]
  exact mach_scans l 0 0 0 [] rfl (Nat.zero_le _) trivial

end Go.Proofs.YteokdknaadckbaaGreatDoor
namespace Go.Proofs.YteokdknaadckbaaGreatDoor

inductive Tree where
  | node (kind : Int) (name : List UInt8) (num : Int) (at_ : Nat) (kids : List Tree)

/-- what is left of the tokens; is one more of something refused, if it is right there? -/
structure PS where
  ts : List Tok
  full : Bool

inductive Ans (α : Type) where
  | ok (a : α) (s : PS)
  | no (why : Int) (at_ : Nat)

def Ans.bind {α β : Type} (r : Ans α) (f : α → PS → Ans β) : Ans β :=
  match r with
  | .ok a s => f a s
  | .no e i => .no e i

def PS.hd (s : PS) : Tok := s.ts.headD ⟨5, [], 0, 0⟩
def PS.bad {α : Type} (s : PS) (e : Int) : Ans α := .no e s.hd.at_
def PS.sees (s : PS) (t : List UInt8) : Bool := s.hd.text == t
def PS.take (s : PS) : Ans Tok := if s.full then s.bad 42 else .ok s.hd ⟨s.ts.tail, s.full⟩
def PS.room (s : PS) (have_ most : Nat) : PS := if have_ = most then ⟨s.ts, true⟩ else s
def PS.want (s : PS) (t : List UInt8) : Ans Unit := if s.sees t then s.take.bind fun _ s => .ok () s else s.bad 40
def PS.ofKind (s : PS) (k : Int) : Ans Tok := if s.hd.kind = k then s.take else s.bad 40

/-- the words and signs -/
def wConst : List UInt8 := [99, 111, 110, 115, 116]
def wTypedef : List UInt8 := [116, 121, 112, 101, 100, 101, 102]
def wEnum : List UInt8 := [101, 110, 117, 109]
def wStruct : List UInt8 := [115, 116, 114, 117, 99, 116]
def wUnion : List UInt8 := [117, 110, 105, 111, 110]
def wProgram : List UInt8 := [112, 114, 111, 103, 114, 97, 109]
def wVersion : List UInt8 := [118, 101, 114, 115, 105, 111, 110]
def wSwitch : List UInt8 := [115, 119, 105, 116, 99, 104]
def wCase : List UInt8 := [99, 97, 115, 101]
def wDefault : List UInt8 := [100, 101, 102, 97, 117, 108, 116]
def wVoid : List UInt8 := [118, 111, 105, 100]
def wOpaque : List UInt8 := [111, 112, 97, 113, 117, 101]
def wString : List UInt8 := [115, 116, 114, 105, 110, 103]
def wUnsigned : List UInt8 := [117, 110, 115, 105, 103, 110, 101, 100]
def wInt : List UInt8 := [105, 110, 116]
def wHyper : List UInt8 := [104, 121, 112, 101, 114]
def wFloat : List UInt8 := [102, 108, 111, 97, 116]
def wDouble : List UInt8 := [100, 111, 117, 98, 108, 101]
def wBool : List UInt8 := [98, 111, 111, 108]

/-- the bare types: kind, with `unsigned` ahead, word -/
def baresL : List (Int × Bool × List UInt8) := [(18, false, wInt), (19, true, wInt), (20, false, wHyper), (21, true, wHyper), (22, false, wFloat), (23, false, wDouble), (24, false, wBool)]

def named (k : Int) (t : Tok) (kids : List Tree) : Tree := .node k t.text 0 t.at_ kids
def aloneP (k : Int) (s : PS) : Ans Tree := s.take.bind fun t s => .ok (.node k [] 0 t.at_ []) s
def nameP (s : PS) : Ans Tok := s.ofKind 1
def refP (s : PS) : Ans Tree := (nameP s).bind fun t s => .ok (named 27 t []) s
def numberP (s : PS) : Ans Tree := (s.ofKind 3).bind fun t s => .ok (.node 28 [] t.num t.at_ []) s
def valueP (s : PS) : Ans Tree := if s.hd.kind = 1 then refP s else numberP s
def naturalP (s : PS) : Ans Tree := if s.hd.num < 0 then s.bad 40 else numberP s

def bareP (s : PS) : Ans Tree :=
  if s.hd.kind = 1 then refP s else
    let at_ := s.hd.at_
    let uns := s.sees wUnsigned
    (if uns then s.take.bind fun _ s => .ok () s else .ok () s).bind fun _ s =>
      match baresL.find? fun b => b.2.1 == uns && s.sees b.2.2 with
      | some b => s.take.bind fun _ s => .ok (.node b.1 [] 0 at_ []) s
      | none => s.bad 40

/-- one at least, and more until one of the ends comes (a 65th fails at once, so 66 rounds are enough) -/
def someP (one : PS → Ans Tree) (ends : List (List UInt8)) : Nat → List Tree → PS → Ans (List Tree)
  | 0, _, s => s.bad 0
  | f + 1, acc, s =>
    if acc.isEmpty || !(ends.any s.sees) then (one (s.room acc.length 64)).bind fun t s => someP one ends f (acc ++ [t]) s
    else .ok acc s
def moreP (one : PS → Ans Tree) (most : Nat) : Nat → List Tree → PS → Ans (List Tree)
  | 0, _, s => s.bad 0
  | f + 1, acc, s =>
    if s.sees [44] then (s.room acc.length most).take.bind fun _ s => (one s).bind fun t s => moreP one most f (acc ++ [t]) s
    else .ok acc s
def partedP (one : PS → Ans Tree) (most : Nat) (s : PS) : Ans (List Tree) := (one s).bind fun t s => moreP one most 66 [t] s

def memberP (s : PS) : Ans Tree := (nameP s).bind fun n s => (s.want [61]).bind fun _ s => (valueP s).bind fun v s => .ok (named 5 n [v]) s
def membersP (s : PS) : Ans (List Tree) := (s.want [123]).bind fun _ s => (partedP memberP 64 s).bind fun l s => (s.want [125]).bind fun _ s => .ok l s

/-- from a declaration's name on -/
def sizedP (k : Int) (of : Tree) (s : PS) : Ans Tree :=
  (nameP s).bind fun n s =>
    if s.sees [91] && k != 26 then s.take.bind fun _ s => (valueP s).bind fun v s => (s.want [93]).bind fun _ s => .ok (named 15 n [of, v]) s
    else if s.sees [60] then
      (s.want [60]).bind fun _ s =>
        if s.sees [62] then (s.want [62]).bind fun _ s => .ok (named 16 n [of]) s
        else (valueP s).bind fun v s => (s.want [62]).bind fun _ s => .ok (named 16 n [of, v]) s
    else if k == 25 || k == 26 then s.bad 40
    else .ok (named 14 n [of]) s

def Tree.kind : Tree → Int
  | .node k _ _ _ _ => k

/-- B: what reads a body without a name -/
def writtenP (B : PS → Ans Tree) (s : PS) : Ans Tree := if s.sees wEnum || s.sees wStruct || s.sees wUnion then B s else bareP s
def somethingP (B : PS → Ans Tree) (s : PS) : Ans Tree :=
  if s.sees wOpaque then (aloneP 25 s).bind fun t s => sizedP 25 t s
  else if s.sees wString then (aloneP 26 s).bind fun t s => sizedP 26 t s
  else (writtenP B s).bind fun of s =>
    if s.sees [42] then s.take.bind fun _ s => (nameP s).bind fun n s => .ok (named 17 n [of]) s
    else sizedP of.kind of s
def declarationP (B : PS → Ans Tree) (s : PS) : Ans Tree := if s.sees wVoid then aloneP 13 s else somethingP B s
def fieldP (B : PS → Ans Tree) (s : PS) : Ans Tree := (declarationP B s).bind fun t s => (s.want [59]).bind fun _ s => .ok t s
def fieldsP (B : PS → Ans Tree) (s : PS) : Ans (List Tree) := (s.want [123]).bind fun _ s => (someP (fieldP B) [[125]] 66 [] s).bind fun l s => (s.want [125]).bind fun _ s => .ok l s
def casesP : Nat → List Tree → PS → Ans (List Tree)
  | 0, _, s => s.bad 0
  | f + 1, acc, s =>
    if acc.isEmpty || s.sees wCase then ((s.room acc.length 64).want wCase).bind fun _ s => (valueP s).bind fun v s => (s.want [58]).bind fun _ s => casesP f (acc ++ [v]) s
    else .ok acc s
def armP (B : PS → Ans Tree) (s : PS) : Ans Tree :=
  let at_ := s.hd.at_
  (casesP 66 [] s).bind fun l s => (fieldP B s).bind fun t s => .ok (.node 8 [] 0 at_ (l ++ [t])) s
def choiceP (B : PS → Ans Tree) (s : PS) : Ans (List Tree) :=
  (s.want wSwitch).bind fun _ s => (s.want [40]).bind fun _ s => (declarationP B s).bind fun d s => (s.want [41]).bind fun _ s => (s.want [123]).bind fun _ s =>
    (someP (armP B) [wDefault, [125]] 66 [] s).bind fun l s =>
      if s.sees wDefault then
        (aloneP 9 s).bind fun e s => (s.want [58]).bind fun _ s => (fieldP B s).bind fun t s => (s.want [125]).bind fun _ s =>
          match e with
          | .node k n m i _ => .ok (d :: l ++ [.node k n m i [t]]) s
      else (s.want [125]).bind fun _ s => .ok (d :: l) s

/-- a body, with so many more that may stand within -/
def bodyP : Nat → Bool → PS → Ans Tree
  | 0, _, s => s.bad 41
  | d + 1, hasName, s =>
    s.take.bind fun word s =>
      (if hasName then (nameP s).bind fun n s => .ok (n.text, n.at_) s else .ok ([], word.at_) s).bind fun na s =>
        if word.text = wEnum then (membersP s).bind fun l s => .ok (.node 4 na.1 0 na.2 l) s
        else if word.text = wStruct then (fieldsP (bodyP d false) s).bind fun l s => .ok (.node 6 na.1 0 na.2 l) s
        else (choiceP (bodyP d false) s).bind fun l s => .ok (.node 7 na.1 0 na.2 l) s

def numberedP (k : Int) (part : PS → Ans Tree) (s : PS) : Ans Tree :=
  s.take.bind fun _ s => (nameP s).bind fun n s => (s.want [123]).bind fun _ s => (someP part [[125]] 66 [] s).bind fun l s =>
    (s.want [125]).bind fun _ s => (s.want [61]).bind fun _ s => (naturalP s).bind fun v s => .ok (named k n (v :: l)) s
def resultP (s : PS) : Ans Tree := if s.sees wVoid then aloneP 13 s else bareP s
def argumentsP (s : PS) : Ans (List Tree) := if s.sees wVoid then (aloneP 13 s).bind fun t s => .ok [t] s else partedP bareP 4 s
def procedureP (s : PS) : Ans Tree :=
  (resultP s).bind fun r s => (nameP s).bind fun n s => (s.want [40]).bind fun _ s => (argumentsP s).bind fun l s => (s.want [41]).bind fun _ s => (s.want [61]).bind fun _ s =>
    (naturalP s).bind fun v s => (s.want [59]).bind fun _ s => .ok (named 12 n (v :: r :: l)) s
def versionP (s : PS) : Ans Tree := if s.sees wVersion then (numberedP 11 procedureP s).bind fun t s => (s.want [59]).bind fun _ s => .ok t s else s.bad 40
def definitionP (s : PS) : Ans Tree :=
  if s.sees wConst then (s.want wConst).bind fun _ s => (nameP s).bind fun n s => (s.want [61]).bind fun _ s => (numberP s).bind fun v s => .ok (named 2 n [v]) s
  else if s.sees wTypedef then s.take.bind fun t s => (somethingP (bodyP 8 false) s).bind fun d s => .ok (.node 3 [] 0 t.at_ [d]) s
  else if s.sees wEnum || s.sees wStruct || s.sees wUnion then bodyP 8 true s
  else if s.sees wProgram then numberedP 10 versionP s
  else s.bad 40
def sourceP : Nat → List Tree → PS → Ans (List Tree)
  | 0, _, s => s.bad 0
  | f + 1, acc, s =>
    if s.hd.kind = 5 then .ok acc s
    else (definitionP (s.room acc.length 100)).bind fun t s => (s.want [59]).bind fun _ s => sourceP f (acc ++ [t]) s

inductive PRes where
  | ok (t : Tree)
  | err (e : Int) (at_ : Nat)

/-- what Parse answers of a source -/
def parseP (l : List UInt8) : PRes :=
  match scanP l with
  | .err e i => .err e i
  | .ok ts =>
    match sourceP 102 [] ⟨ts, false⟩ with
    | .ok ks _ => .ok (.node 1 [] 0 0 ks)
    | .no e i => .err e i
end Go.Proofs.YteokdknaadckbaaGreatDoor
namespace Go.Proofs.YteokdknaadckbaaGreatDoor
open Go.RowKit

def tokV (t : Tok) : Value := .agg #[.int .i64 t.kind, .string ⟨t.text.toArray⟩, .int .i64 t.num, .int .i64 t.at_]
def faultV (e : Int) (i : Nat) : Value := .iface 50 (.agg #[.int .i64 e, .int .i64 i])

/-- a parser: its tokens, where it is, how many bodies are open, is it full -/
structure PP (w : World) (p g cap : Nat) (ts : List Tok) (i : Nat) (d : Int) (full : Bool) : Prop where
  c0 : w.cell? ⟨p, 0, none⟩ = some (.slice (some ⟨g, 0, none⟩) ts.length cap)
  c1 : w.cell? ⟨p, 1, none⟩ = some (.int .i64 i)
  c2 : w.cell? ⟨p, 2, none⟩ = some (.int .i64 d)
  c3 : w.cell? ⟨p, 3, none⟩ = some (.bool full)
  f1 : w.frozen? ⟨p, 1, none⟩ = false
  f2 : w.frozen? ⟨p, 2, none⟩ = false
  f3 : w.frozen? ⟨p, 3, none⟩ = false
  t0 : ∀ j (h : j < ts.length), w.cell? ⟨g, j * 4, none⟩ = some (.int .i64 ts[j].kind)
  t1 : ∀ j (h : j < ts.length), w.cell? ⟨g, j * 4 + 1, none⟩ = some (.string ⟨ts[j].text.toArray⟩)
  t2 : ∀ j (h : j < ts.length), w.cell? ⟨g, j * 4 + 2, none⟩ = some (.int .i64 ts[j].num)
  t3 : ∀ j (h : j < ts.length), w.cell? ⟨g, j * 4 + 3, none⟩ = some (.int .i64 ts[j].at_)
  il : i < ts.length
  ln : ts.length ≤ 16001
  gp : g ≠ p

theorem below_drew {B : Nat} {a w : World} (h : Below B a w) (k : Nat) : Below B a (w.drewN k) := ⟨h.os, h.tape, h.output, h.size, h.block⟩

theorem token_core (p g cap n i : Nat) (k m : Int) (s : ByteArray) (a : Nat) (w : World) (hp : p < w.heap.size) (hg : g < w.heap.size) (c0' : w.cell? ⟨p, 0, none⟩ = some (.slice (some ⟨g, 0, none⟩) n cap)) (c1' : w.cell? ⟨p, 1, none⟩ = some (.int .i64 i)) (hi : (i : Int) < n)
    (t0' : w.cell? ⟨g, i * 4, none⟩ = some (.int .i64 k)) (t1' : w.cell? ⟨g, i * 4 + 1, none⟩ = some (.string s)) (t2' : w.cell? ⟨g, i * 4 + 2, none⟩ = some (.int .i64 m)) (t3' : w.cell? ⟨g, i * 4 + 3, none⟩ = some (.int .i64 a)) :
    Calls Tryz.prog 38 #[.pointer (some ⟨p, 0, none⟩)] w fun e w' => e = .returned (.agg #[.int .i64 k, .string s, .int .i64 m, .int .i64 a]) ∧ Below w.heap.size w w' := by
  obtain ⟨wa, hwa⟩ : ∃ wa, w.alloc (.cells #[.int .i64 0, .string ⟨#[]⟩, .int .i64 0, .int .i64 0] 41) = wa := ⟨_, rfl⟩
  have c0 : wa.cell? ⟨p, 0, none⟩ = some (.slice (some ⟨g, 0, none⟩) n cap) := by rw [← hwa, World.cell?_alloc_lt _ _ _ hp]; exact c0'
  have c1 : wa.cell? ⟨p, 1, none⟩ = some (.int .i64 i) := by rw [← hwa, World.cell?_alloc_lt _ _ _ hp]; exact c1'
  have t0 : wa.cell? ⟨g, i * 4, none⟩ = some (.int .i64 k) := by rw [← hwa, World.cell?_alloc_lt _ _ _ hg]; exact t0'
  have t1 : wa.cell? ⟨g, i * 4 + 1, none⟩ = some (.string s) := by rw [← hwa, World.cell?_alloc_lt _ _ _ hg]; exact t1'
  have t2 : wa.cell? ⟨g, i * 4 + 2, none⟩ = some (.int .i64 m) := by rw [← hwa, World.cell?_alloc_lt _ _ _ hg]; exact t2'
  have t3 : wa.cell? ⟨g, i * 4 + 3, none⟩ = some (.int .i64 a) := by rw [← hwa, World.cell?_alloc_lt _ _ _ hg]; exact t3'
  have z0 : wa.cell? ⟨w.heap.size, 0, none⟩ = some (.int .i64 0) := by rw [← hwa]; simp
  have z1 : wa.cell? ⟨w.heap.size, 1, none⟩ = some (.string ⟨#[]⟩) := by rw [← hwa]; simp
  have z2 : wa.cell? ⟨w.heap.size, 2, none⟩ = some (.int .i64 0) := by rw [← hwa]; simp
  have z3 : wa.cell? ⟨w.heap.size, 3, none⟩ = some (.int .i64 0) := by rw [← hwa]; simp
  have y0 : wa.frozen? ⟨w.heap.size, 0, none⟩ = false := by rw [← hwa]; simp
  have y1 : wa.frozen? ⟨w.heap.size, 1, none⟩ = false := by rw [← hwa]; simp
  have y2 : wa.frozen? ⟨w.heap.size, 2, none⟩ = false := by rw [← hwa]; simp
  have y3 : wa.frozen? ⟨w.heap.size, 3, none⟩ = false := by rw [← hwa]; simp
  have HWA : Hid (w.alloc (.cells #[.int .i64 0, .string ⟨#[]⟩, .int .i64 0, .int .i64 0] 41) = wa) := hwa
  have HB : Hid (∀ k v0 v1 v2 v3, Below w.heap.size w (((((wa.drewN k).setCell ⟨w.heap.size, 0, none⟩ v0).setCell ⟨w.heap.size, 1, none⟩ v1).setCell ⟨w.heap.size, 2, none⟩ v2).setCell ⟨w.heap.size, 3, none⟩ v3)) := fun k v0 v1 v2 v3 => by
    rw [← hwa]
    exact ((((below_drew ((Below.refl _ _).alloc (Nat.le_refl _) _) k).setCell (Nat.le_refl _) _).setCell (Nat.le_refl _) _).setCell (Nat.le_refl _) _).setCell (Nat.le_refl _) _
  clear c0' c1' t0' t1' t2' t3' hp hg
  go_enter Tryz.func38, Tryz.ntmps38
  go_wp2_with fail
  clear hwa
  go_region
  all_goals (
    go_wp2
    obtain ⟨wz, hwz⟩ : ∃ wz, (((wa.setCell ⟨w.heap.size, 0, none⟩ (.int .i64 k)).setCell ⟨w.heap.size, 1, none⟩ (.string s)).setCell ⟨w.heap.size, 2, none⟩ (.int .i64 m)).setCell ⟨w.heap.size, 3, none⟩ (.int .i64 a) = wz := ⟨_, rfl⟩
    have q0 : wz.cell? ⟨w.heap.size, 0, none⟩ = some (.int .i64 k) := by rw [← hwz]; simp [World.cell?_setCell_other, World.cell?_setCell_same _ _ _ z0]
    have q1 : wz.cell? ⟨w.heap.size, 1, none⟩ = some (.string s) := by rw [← hwz, World.cell?_setCell_other _ _ _ _ (by simp), World.cell?_setCell_other _ _ _ _ (by simp)]; exact World.cell?_setCell_same _ _ _ (by rw [World.cell?_setCell_other _ _ _ _ (by simp)]; exact z1)
    have q2 : wz.cell? ⟨w.heap.size, 2, none⟩ = some (.int .i64 m) := by rw [← hwz, World.cell?_setCell_other _ _ _ _ (by simp)]; exact World.cell?_setCell_same _ _ _ (by rw [World.cell?_setCell_other _ _ _ _ (by simp), World.cell?_setCell_other _ _ _ _ (by simp)]; exact z2)
    have q3 : wz.cell? ⟨w.heap.size, 3, none⟩ = some (.int .i64 a) := by rw [← hwz]; exact World.cell?_setCell_same _ _ _ (by rw [World.cell?_setCell_other _ _ _ _ (by simp), World.cell?_setCell_other _ _ _ _ (by simp), World.cell?_setCell_other _ _ _ _ (by simp)]; exact z3)
    have hBz : Below w.heap.size w wz.drew := by
      rw [← hwz]
      exact below_drew (HB.out 0 _ _ _ _) 1
    rw [hwz]
    refine bodyPost_ret (v := .agg #[.int .i64 k, .string s, .int .i64 m, .int .i64 a]) (by simp [results, Tryz.results38, go_sem, q0, q1, q2, q3]) rfl ⟨rfl, hBz⟩)

theorem cell_lt {w : World} {p o : Nat} {v : Value} (h : w.cell? ⟨p, o, none⟩ = some v) : p < w.heap.size := by
  rcases Nat.lt_or_ge p w.heap.size with h1 | h1
  · exact h1
  · simp [World.cell?, Array.getElem?_eq_none h1] at h
theorem token_any (p g cap : Nat) (ts : List Tok) (i : Nat) (d : Int) (full : Bool) (w : World) (h : PP w p g cap ts i d full) :
    Calls Tryz.prog 38 #[.pointer (some ⟨p, 0, none⟩)] w fun e w' => e = .returned (tokV (ts[i]'h.il)) ∧ Below w.heap.size w w' :=
  token_core p g cap ts.length i _ _ _ _ w (cell_lt h.c0) (cell_lt (h.t0 i h.il)) h.c0 h.c1 (by have := h.il; omega) (h.t0 i h.il) (h.t1 i h.il) (h.t2 i h.il) (h.t3 i h.il)
end Go.Proofs.YteokdknaadckbaaGreatDoor
namespace Go.Proofs.YteokdknaadckbaaGreatDoor
open Go.RowKit

theorem cells_same {w w' : World} {b : Nat} (h : w'.heap[b]? = w.heap[b]?) (o : Nat) : w'.cell? ⟨b, o, none⟩ = w.cell? ⟨b, o, none⟩ ∧ w'.frozen? ⟨b, o, none⟩ = w.frozen? ⟨b, o, none⟩ := by
  constructor
  · simp only [World.cell?, h]
  · simp only [World.frozen?, h]
/-- a struct of four cells, stored -/
theorem res4 (u : World) (r : Nat) (v0 v1 v2 v3 : Value) {x0 x1 x2 x3 : Value} (h0 : u.cell? ⟨r, 0, none⟩ = some x0) (h1 : u.cell? ⟨r, 1, none⟩ = some x1) (h2 : u.cell? ⟨r, 2, none⟩ = some x2) (h3 : u.cell? ⟨r, 3, none⟩ = some x3) :
    ((((u.setCell ⟨r, 0, none⟩ v0).setCell ⟨r, 1, none⟩ v1).setCell ⟨r, 2, none⟩ v2).setCell ⟨r, 3, none⟩ v3).cell? ⟨r, 0, none⟩ = some v0 ∧
    ((((u.setCell ⟨r, 0, none⟩ v0).setCell ⟨r, 1, none⟩ v1).setCell ⟨r, 2, none⟩ v2).setCell ⟨r, 3, none⟩ v3).cell? ⟨r, 1, none⟩ = some v1 ∧
    ((((u.setCell ⟨r, 0, none⟩ v0).setCell ⟨r, 1, none⟩ v1).setCell ⟨r, 2, none⟩ v2).setCell ⟨r, 3, none⟩ v3).cell? ⟨r, 2, none⟩ = some v2 ∧
    ((((u.setCell ⟨r, 0, none⟩ v0).setCell ⟨r, 1, none⟩ v1).setCell ⟨r, 2, none⟩ v2).setCell ⟨r, 3, none⟩ v3).cell? ⟨r, 3, none⟩ = some v3 := by
  refine ⟨?_, ?_, ?_, ?_⟩
  · rw [World.cell?_setCell_other _ _ _ _ (by simp), World.cell?_setCell_other _ _ _ _ (by simp), World.cell?_setCell_other _ _ _ _ (by simp)]; exact World.cell?_setCell_same _ _ _ h0
  · rw [World.cell?_setCell_other _ _ _ _ (by simp), World.cell?_setCell_other _ _ _ _ (by simp)]; exact World.cell?_setCell_same _ _ _ (by rw [World.cell?_setCell_other _ _ _ _ (by simp)]; exact h1)
  · rw [World.cell?_setCell_other _ _ _ _ (by simp)]; exact World.cell?_setCell_same _ _ _ (by rw [World.cell?_setCell_other _ _ _ _ (by simp), World.cell?_setCell_other _ _ _ _ (by simp)]; exact h2)
  · exact World.cell?_setCell_same _ _ _ (by rw [World.cell?_setCell_other _ _ _ _ (by simp), World.cell?_setCell_other _ _ _ _ (by simp), World.cell?_setCell_other _ _ _ _ (by simp)]; exact h3)
theorem below_set4 (u : World) (B r : Nat) (v0 v1 v2 v3 : Value) (h : B ≤ r) : Below B u ((((u.setCell ⟨r, 0, none⟩ v0).setCell ⟨r, 1, none⟩ v1).setCell ⟨r, 2, none⟩ v2).setCell ⟨r, 3, none⟩ v3) :=
  Below.setCell (p := ⟨r, 3, none⟩) (Below.setCell (p := ⟨r, 2, none⟩) (Below.setCell (p := ⟨r, 1, none⟩) (Below.setCell (p := ⟨r, 0, none⟩) (Below.refl _ _) h _) h _) h _) h _
theorem fld0 (k m a : Int) (s : ByteArray) (w : World) : (Instr.field 41 (.agg #[.int .i64 k, .string s, .int .i64 m, .int .i64 a]) 0).run Tryz.prog w = .ok (.int .i64 k) w := by kernel_rfl
theorem fld1 (k m a : Int) (s : ByteArray) (w : World) : (Instr.field 41 (.agg #[.int .i64 k, .string s, .int .i64 m, .int .i64 a]) 1).run Tryz.prog w = .ok (.string s) w := by kernel_rfl
theorem fld2 (k m a : Int) (s : ByteArray) (w : World) : (Instr.field 41 (.agg #[.int .i64 k, .string s, .int .i64 m, .int .i64 a]) 2).run Tryz.prog w = .ok (.int .i64 m) w := by kernel_rfl
theorem fld3 (k m a : Int) (s : ByteArray) (w : World) : (Instr.field 41 (.agg #[.int .i64 k, .string s, .int .i64 m, .int .i64 a]) 3).run Tryz.prog w = .ok (.int .i64 a) w := by kernel_rfl

set_option maxRecDepth 4000 in
theorem sees_core (p : Nat) (k m : Int) (s t : ByteArray) (a : Nat) (w : World) (H0 : Hid (Calls Tryz.prog 38 #[.pointer (some ⟨p, 0, none⟩)] w fun e w' => e = .returned (.agg #[.int .i64 k, .string s, .int .i64 m, .int .i64 a]) ∧ Below w.heap.size w w')) :
    Calls Tryz.prog 75 #[.pointer (some ⟨p, 0, none⟩), .string t] w fun e w' => e = .returned (.bool (s.toList == t.toList)) ∧ Below w.heap.size w w' := by
  have q1 := fld1 k m a s
  go_enter Tryz.func75, Tryz.ntmps75
  go_wp2_with fail
  refine H0.out.mono ?_
  rintro e w1 ⟨rfl, hB⟩
  have HB : Hid (Below w.heap.size w w1) := hB
  clear hB
  go_wp2
  go_ret
  exact ⟨rfl, HB.out⟩
theorem room_no (p : Nat) (a b : Int) (w : World) (h : (a == b) = false) : Calls Tryz.prog 39 #[.pointer (some ⟨p, 0, none⟩), .int .i64 a, .int .i64 b] w fun e w' => e = .returned (.tuple #[]) ∧ w' = w := by
  go_enter Tryz.func39, Tryz.ntmps39
  go_wp2
  first | go_end0 | refine bodyPost_ret (results_none rfl _ _ _) rfl ?_
  exact ⟨rfl, rfl⟩
theorem room_yes (p : Nat) (a : Int) (v : Value) (w : World) (h3 : w.cell? ⟨p, 3, none⟩ = some v) (f3 : w.frozen? ⟨p, 3, none⟩ = false) : Calls Tryz.prog 39 #[.pointer (some ⟨p, 0, none⟩), .int .i64 a, .int .i64 a] w fun e w' => e = .returned (.tuple #[]) ∧ w' = w.setCell ⟨p, 3, none⟩ (.bool true) := by
  go_enter Tryz.func39, Tryz.ntmps39
  go_wp2
  first | go_end0 | refine bodyPost_ret (results_none rfl _ _ _) rfl ?_
  exact ⟨rfl, rfl⟩
set_option maxRecDepth 4000 in
theorem wrong_core (p : Nat) (why k m : Int) (s : ByteArray) (a : Nat) (w : World)
    (H0 : Hid (∀ w1, Below w.heap.size w w1 → Calls Tryz.prog 38 #[.pointer (some ⟨p, 0, none⟩)] w1 fun e w' => e = .returned (.agg #[.int .i64 k, .string s, .int .i64 m, .int .i64 a]) ∧ Below w1.heap.size w1 w')) :
    Calls Tryz.prog 74 #[.pointer (some ⟨p, 0, none⟩), .int .i64 why] w fun e w' => e = .returned (.agg #[.int .i64 why, .int .i64 a]) ∧ Below w.heap.size w w' := by
  have q3 := fld3 k m a s
  go_enter Tryz.func74, Tryz.ntmps74
  go_wp2_with fail
  refine (H0.out _ ((Below.refl _ _).alloc (Nat.le_refl _) _)).mono ?_
  rintro e w1 ⟨rfl, hB⟩
  have HB : Hid (Below (w.alloc (.cells #[.int .i64 0, .int .i64 0] 50)).heap.size (w.alloc (.cells #[.int .i64 0, .int .i64 0] 50)) w1) := hB
  have z0 : w1.cell? ⟨w.heap.size, 0, none⟩ = some (.int .i64 0) := by rw [hB.cell (p := ⟨w.heap.size, 0, none⟩) (by simp)]; simp
  have z1 : w1.cell? ⟨w.heap.size, 1, none⟩ = some (.int .i64 0) := by rw [hB.cell (p := ⟨w.heap.size, 1, none⟩) (by simp)]; simp
  have y0 : w1.frozen? ⟨w.heap.size, 0, none⟩ = false := by rw [(cells_same (hB.block w.heap.size (by simp)) 0).2]; simp
  have y1 : w1.frozen? ⟨w.heap.size, 1, none⟩ = false := by rw [(cells_same (hB.block w.heap.size (by simp)) 1).2]; simp
  have HE : Hid (∀ v0 v1, Below w.heap.size w ((w1.setCell ⟨w.heap.size, 0, none⟩ v0).setCell ⟨w.heap.size, 1, none⟩ v1)) := fun v0 v1 =>
    ((((Below.refl _ _).alloc (Nat.le_refl _) _).trans (hB.mono (by simp))).setCell (Nat.le_refl _) _).setCell (Nat.le_refl _) _
  clear hB
  go_wp2
  obtain ⟨wz, hwz⟩ : ∃ wz, (w1.setCell ⟨w.heap.size, 0, none⟩ (.int .i64 why)).setCell ⟨w.heap.size, 1, none⟩ (.int .i64 a) = wz := ⟨_, rfl⟩
  have q0 : wz.cell? ⟨w.heap.size, 0, none⟩ = some (.int .i64 why) := by rw [← hwz, World.cell?_setCell_other _ _ _ _ (by simp)]; exact World.cell?_setCell_same _ _ _ z0
  have q1 : wz.cell? ⟨w.heap.size, 1, none⟩ = some (.int .i64 a) := by rw [← hwz]; exact World.cell?_setCell_same _ _ _ (by rw [World.cell?_setCell_other _ _ _ _ (by simp)]; exact z1)
  have hBz : Below w.heap.size w wz := by rw [← hwz]; exact HE.out _ _
  rw [hwz]
  exact bodyPost_ret (v := .agg #[.int .i64 why, .int .i64 a]) (by simp [results, Tryz.results74, go_sem, q0, q1]) rfl ⟨rfl, hBz⟩

/-- take, where one more is refused: it gives up -/
theorem take_full (p : Nat) (a : Int) (w : World) (h3' : w.cell? ⟨p, 3, none⟩ = some (.bool true)) (HW : Hid (∀ w1, Below w.heap.size w w1 → Calls Tryz.prog 74 #[.pointer (some ⟨p, 0, none⟩), .int .i64 42] w1 fun e w' => e = .returned (.agg #[.int .i64 42, .int .i64 a]) ∧ Below w1.heap.size w1 w')) :
    Calls Tryz.prog 69 #[.pointer (some ⟨p, 0, none⟩)] w fun e w' => e = .panicked [{ v := .iface 50 (.agg #[.int .i64 42, .int .i64 a]), recovered := false }] ∧ Below w.heap.size w w' := by
  have hp := cell_lt h3'
  have h3 : ∀ x, (w.alloc x).cell? ⟨p, 3, none⟩ = some (.bool true) := fun x => by rw [World.cell?_alloc_lt _ _ _ hp]; exact h3'
  have h4 : ∀ x y, ((w.alloc x).alloc y).cell? ⟨p, 3, none⟩ = some (.bool true) := fun x y => by rw [World.cell?_alloc_lt _ _ _ (by simp; omega)]; exact h3 x
  clear h3' hp
  go_enter Tryz.func69, Tryz.ntmps69
  go_wp2_with fail
  refine (HW.out _ ((Below.refl _ _).alloc (Nat.le_refl _) _)).mono ?_
  rintro e w1 ⟨rfl, hB⟩
  have HB : Hid (Below w.heap.size w w1) := ((Below.refl _ _).alloc (Nat.le_refl _) _).trans (hB.mono (by simp))
  clear hB
  go_wp2
  exact ⟨rfl, rfl, HB.out⟩

set_option maxRecDepth 4000 in
theorem take_one (p i : Nat) (k m : Int) (s : ByteArray) (a : Nat) (w : World) (h3' : w.cell? ⟨p, 3, none⟩ = some (.bool false)) (h1' : w.cell? ⟨p, 1, none⟩ = some (.int .i64 i)) (f1' : w.frozen? ⟨p, 1, none⟩ = false) (hi : (i : Int) ≤ 16001)
    (H0 : Hid (∀ w1, Below w.heap.size w w1 → Calls Tryz.prog 38 #[.pointer (some ⟨p, 0, none⟩)] w1 fun e w' => e = .returned (.agg #[.int .i64 k, .string s, .int .i64 m, .int .i64 a]) ∧ Below w1.heap.size w1 w')) :
    Calls Tryz.prog 69 #[.pointer (some ⟨p, 0, none⟩)] w fun e w' => e = .returned (.agg #[.int .i64 k, .string s, .int .i64 m, .int .i64 a]) ∧ ∃ w1, Below w.heap.size w w1 ∧ Below w.heap.size (w1.setCell ⟨p, 1, none⟩ (.int .i64 ((i : Int) + 1))) w' := by
  have hp := cell_lt h3'
  have h3 : ∀ x, (w.alloc x).cell? ⟨p, 3, none⟩ = some (.bool false) := fun x => by rw [World.cell?_alloc_lt _ _ _ hp]; exact h3'
  have HC : Hid (∀ w1, Below w.heap.size w w1 → w1.cell? ⟨p, 1, none⟩ = some (.int .i64 i) ∧ w1.frozen? ⟨p, 1, none⟩ = false) := fun w1 hB => ⟨(cells_same (hB.block p hp) 1).1.trans h1', (cells_same (hB.block p hp) 1).2.trans f1'⟩
  have HPL : Hid (p < w.heap.size) := hp
  clear h3' h1' f1' hp
  go_enter Tryz.func69, Tryz.ntmps69
  go_wp2_with fail
  refine (H0.out _ ((Below.refl _ _).alloc (Nat.le_refl _) _)).mono ?_
  rintro e w1 ⟨rfl, hB⟩
  have hB1 : Below w.heap.size w w1 := ((Below.refl _ _).alloc (Nat.le_refl _) _).trans (hB.mono (by simp))
  obtain ⟨hc1, hf1⟩ := HC.out w1 hB1
  have HB : Hid (Below w.heap.size w w1) := hB1
  have z0' : w1.cell? ⟨w.heap.size, 0, none⟩ = some (.int .i64 0) := by rw [hB.cell (p := ⟨w.heap.size, 0, none⟩) (by simp)]; simp
  have y0' : w1.frozen? ⟨w.heap.size, 0, none⟩ = false := by rw [(cells_same (hB.block w.heap.size (by simp)) 0).2]; simp
  have z1' : w1.cell? ⟨w.heap.size, 1, none⟩ = some (.string ⟨#[]⟩) := by rw [hB.cell (p := ⟨w.heap.size, 1, none⟩) (by simp)]; simp
  have y1' : w1.frozen? ⟨w.heap.size, 1, none⟩ = false := by rw [(cells_same (hB.block w.heap.size (by simp)) 1).2]; simp
  have z2' : w1.cell? ⟨w.heap.size, 2, none⟩ = some (.int .i64 0) := by rw [hB.cell (p := ⟨w.heap.size, 2, none⟩) (by simp)]; simp
  have y2' : w1.frozen? ⟨w.heap.size, 2, none⟩ = false := by rw [(cells_same (hB.block w.heap.size (by simp)) 2).2]; simp
  have z3' : w1.cell? ⟨w.heap.size, 3, none⟩ = some (.int .i64 0) := by rw [hB.cell (p := ⟨w.heap.size, 3, none⟩) (by simp)]; simp
  have y3' : w1.frozen? ⟨w.heap.size, 3, none⟩ = false := by rw [(cells_same (hB.block w.heap.size (by simp)) 3).2]; simp
  have hlt1 : w.heap.size < w1.heap.size := by have := hB.size; simp at this; omega
  have hpl := HPL.out
  obtain ⟨w2, hw2⟩ : ∃ w2, w1.alloc (.cells #[.int .i64 k, .string s, .int .i64 m, .int .i64 a] 41) = w2 := ⟨_, rfl⟩
  have e1 : w2.cell? ⟨p, 1, none⟩ = some (.int .i64 i) := by rw [← hw2, World.cell?_alloc_lt _ _ _ (show p < w1.heap.size by omega)]; exact hc1
  have g1 : w2.frozen? ⟨p, 1, none⟩ = false := by rw [← hw2, World.frozen?_alloc_old _ _ _ (show p ≠ w1.heap.size by omega)]; exact hf1
  have l0 : w2.cell? ⟨w1.heap.size, 0, none⟩ = some (.int .i64 k) := by rw [← hw2]; simp
  have l1 : w2.cell? ⟨w1.heap.size, 1, none⟩ = some (.string s) := by rw [← hw2]; simp
  have l2 : w2.cell? ⟨w1.heap.size, 2, none⟩ = some (.int .i64 m) := by rw [← hw2]; simp
  have l3 : w2.cell? ⟨w1.heap.size, 3, none⟩ = some (.int .i64 a) := by rw [← hw2]; simp
  have z0 : w2.cell? ⟨w.heap.size, 0, none⟩ = some (.int .i64 0) := by rw [← hw2, World.cell?_alloc_lt _ _ _ hlt1]; exact z0'
  have y0 : w2.frozen? ⟨w.heap.size, 0, none⟩ = false := by rw [← hw2, World.frozen?_alloc_old _ _ _ (Nat.ne_of_lt hlt1)]; exact y0'
  have z1 : w2.cell? ⟨w.heap.size, 1, none⟩ = some (.string ⟨#[]⟩) := by rw [← hw2, World.cell?_alloc_lt _ _ _ hlt1]; exact z1'
  have y1 : w2.frozen? ⟨w.heap.size, 1, none⟩ = false := by rw [← hw2, World.frozen?_alloc_old _ _ _ (Nat.ne_of_lt hlt1)]; exact y1'
  have z2 : w2.cell? ⟨w.heap.size, 2, none⟩ = some (.int .i64 0) := by rw [← hw2, World.cell?_alloc_lt _ _ _ hlt1]; exact z2'
  have y2 : w2.frozen? ⟨w.heap.size, 2, none⟩ = false := by rw [← hw2, World.frozen?_alloc_old _ _ _ (Nat.ne_of_lt hlt1)]; exact y2'
  have z3 : w2.cell? ⟨w.heap.size, 3, none⟩ = some (.int .i64 0) := by rw [← hw2, World.cell?_alloc_lt _ _ _ hlt1]; exact z3'
  have y3 : w2.frozen? ⟨w.heap.size, 3, none⟩ = false := by rw [← hw2, World.frozen?_alloc_old _ _ _ (Nat.ne_of_lt hlt1)]; exact y3'
  have hne : ¬ p = w.heap.size := by omega
  have hne2 : ¬ w.heap.size = p := by omega
  have hne3 : ¬ w1.heap.size = p := by omega
  have hne4 : ¬ w1.heap.size = w.heap.size := by omega
  have HB2 : Hid (Below w.heap.size w w2) := by
    show Below w.heap.size w w2
    rw [← hw2]; exact HB.out.alloc (by omega) _
  clear z0' z1' z2' z3' y0' y1' y2' y3' hc1 hf1 hB hB1 hlt1 hpl
  go_wp2
  have q := res4 (w2.setCell ⟨p, 1, none⟩ (.int .i64 ((i : Int) + 1))) w.heap.size (.int .i64 k) (.string s) (.int .i64 m) (.int .i64 a) (by rw [World.cell?_setCell_other _ _ _ _ (by simp <;> omega)]; exact z0) (by rw [World.cell?_setCell_other _ _ _ _ (by simp <;> omega)]; exact z1) (by rw [World.cell?_setCell_other _ _ _ _ (by simp <;> omega)]; exact z2) (by rw [World.cell?_setCell_other _ _ _ _ (by simp <;> omega)]; exact z3)
  have hBz : Below w.heap.size (w2.setCell ⟨p, 1, none⟩ (.int .i64 ((i : Int) + 1))) (((((w2.setCell ⟨p, 1, none⟩ (.int .i64 ((i : Int) + 1))).setCell ⟨w.heap.size, 0, none⟩ (.int .i64 k)).setCell ⟨w.heap.size, 1, none⟩ (.string s)).setCell ⟨w.heap.size, 2, none⟩ (.int .i64 m)).setCell ⟨w.heap.size, 3, none⟩ (.int .i64 a)) :=
    below_set4 _ _ _ _ _ _ _ (Nat.le_refl _)
  generalize ((((w2.setCell ⟨p, 1, none⟩ (.int .i64 ((i : Int) + 1))).setCell ⟨w.heap.size, 0, none⟩ (.int .i64 k)).setCell ⟨w.heap.size, 1, none⟩ (.string s)).setCell ⟨w.heap.size, 2, none⟩ (.int .i64 m)).setCell ⟨w.heap.size, 3, none⟩ (.int .i64 a) = wz at q hBz ⊢
  obtain ⟨q0, q1, q2, q3⟩ := q
  exact bodyPost_ret (v := .agg #[.int .i64 k, .string s, .int .i64 m, .int .i64 a]) (by simp [results, Tryz.results69, go_sem, q0, q1, q2, q3]) rfl ⟨rfl, w2, HB2.out, hBz⟩
end Go.Proofs.YteokdknaadckbaaGreatDoor
namespace Go.Proofs.YteokdknaadckbaaGreatDoor
open Go.RowKit

/-- nothing but block p changes -/
structure Sole (p : Nat) (w w' : World) : Prop where
  os : w'.os = w.os
  tape : w'.tape = w.tape
  output : w'.output = w.output
  size : w.heap.size ≤ w'.heap.size
  block : ∀ b, b < w.heap.size → b ≠ p → w'.heap[b]? = w.heap[b]?
theorem Sole.refl (p : Nat) (w : World) : Sole p w w := ⟨rfl, rfl, rfl, Nat.le_refl _, fun _ _ _ => rfl⟩
theorem Sole.trans {p : Nat} {a b c : World} (h : Sole p a b) (k : Sole p b c) : Sole p a c :=
  ⟨k.os.trans h.os, k.tape.trans h.tape, k.output.trans h.output, Nat.le_trans h.size k.size, fun i hi hp => (k.block i (Nat.lt_of_lt_of_le hi h.size) hp).trans (h.block i hi hp)⟩
theorem Sole.of_below {p : Nat} {a b : World} (h : Below a.heap.size a b) : Sole p a b := ⟨h.os, h.tape, h.output, h.size, fun i hi _ => h.block i hi⟩
theorem Sole.setCell {p : Nat} (w : World) (o : Nat) (v : Value) : Sole p w (w.setCell ⟨p, o, none⟩ v) :=
  ⟨rfl, rfl, rfl, by simp [World.setCell], fun b _ hb => Below.heap_setCell _ _ _ _ hb⟩

theorem PP.of_blocks {w w' : World} {p g cap : Nat} {ts : List Tok} {i : Nat} {d : Int} {full : Bool} (h : PP w p g cap ts i d full) (hp : w'.heap[p]? = w.heap[p]?) (hg : w'.heap[g]? = w.heap[g]?) : PP w' p g cap ts i d full :=
  ⟨(cells_same hp 0).1.trans h.c0, (cells_same hp 1).1.trans h.c1, (cells_same hp 2).1.trans h.c2, (cells_same hp 3).1.trans h.c3, (cells_same hp 1).2.trans h.f1, (cells_same hp 2).2.trans h.f2, (cells_same hp 3).2.trans h.f3,
   fun j hj => (cells_same hg _).1.trans (h.t0 j hj), fun j hj => (cells_same hg _).1.trans (h.t1 j hj), fun j hj => (cells_same hg _).1.trans (h.t2 j hj), fun j hj => (cells_same hg _).1.trans (h.t3 j hj), h.il, h.ln, h.gp⟩
theorem PP.plt {w : World} {p g cap : Nat} {ts : List Tok} {i : Nat} {d : Int} {full : Bool} (h : PP w p g cap ts i d full) : p < w.heap.size := cell_lt h.c0
theorem PP.glt {w : World} {p g cap : Nat} {ts : List Tok} {i : Nat} {d : Int} {full : Bool} (h : PP w p g cap ts i d full) : g < w.heap.size := cell_lt (h.t0 i h.il)
theorem PP.below {w w' : World} {p g cap : Nat} {ts : List Tok} {i : Nat} {d : Int} {full : Bool} (h : PP w p g cap ts i d full) (hB : Below w.heap.size w w') : PP w' p g cap ts i d full := h.of_blocks (hB.block p h.plt) (hB.block g h.glt)
theorem PP.next {w : World} {p g cap : Nat} {ts : List Tok} {i : Nat} {d : Int} {full : Bool} (h : PP w p g cap ts i d full) (j : Nat) (hj : j < ts.length) : PP (w.setCell ⟨p, 1, none⟩ (.int .i64 j)) p g cap ts j d full := by
  have ho : ∀ o, (w.setCell ⟨p, 1, none⟩ (.int .i64 j)).cell? ⟨g, o, none⟩ = w.cell? ⟨g, o, none⟩ := fun o => World.cell?_setCell_other _ _ _ _ (by simp; intro e; exact absurd e.symm h.gp)
  refine ⟨?_, World.cell?_setCell_same _ _ _ h.c1, ?_, ?_, ?_, ?_, ?_, fun k hk => (ho _).trans (h.t0 k hk), fun k hk => (ho _).trans (h.t1 k hk), fun k hk => (ho _).trans (h.t2 k hk), fun k hk => (ho _).trans (h.t3 k hk), hj, h.ln, h.gp⟩
  · rw [World.cell?_setCell_other _ _ _ _ (by simp)]; exact h.c0
  · rw [World.cell?_setCell_other _ _ _ _ (by simp)]; exact h.c2
  · rw [World.cell?_setCell_other _ _ _ _ (by simp)]; exact h.c3
  · rw [World.frozen?_setCell]; exact h.f1
  · rw [World.frozen?_setCell]; exact h.f2
  · rw [World.frozen?_setCell]; exact h.f3

/-- what is left -/
def PSof (ts : List Tok) (i : Nat) (full : Bool) : PS := ⟨ts.drop i, full⟩
theorem PSof_hd (ts : List Tok) (i : Nat) (full : Bool) (h : i < ts.length) : (PSof ts i full).hd = ts[i] := by
  unfold PSof PS.hd
  rw [List.drop_eq_getElem_cons h]
  rfl

/-- what a call of the parser leaves: an answer and where it is, or that it gave up -/
def PPost {α : Type} (p g cap : Nat) (ts : List Tok) (d : Int) (val : α → World → Value → Prop) (r : Ans α) (w : World) (e : Ending) (w' : World) : Prop :=
  match r with
  | .ok a s => ∃ v i full, e = .returned v ∧ val a w' v ∧ s = PSof ts i full ∧ PP w' p g cap ts i d full ∧ Sole p w w'
  | .no why at_ => e = .panicked [{ v := faultV why at_, recovered := false }] ∧ Sole p w w'

def tokIs (t : Tok) (_ : World) (v : Value) : Prop := v = tokV t

theorem wrong_any (p g cap : Nat) (ts : List Tok) (i : Nat) (d why : Int) (full : Bool) (w : World) (h : PP w p g cap ts i d full) :
    Calls Tryz.prog 74 #[.pointer (some ⟨p, 0, none⟩), .int .i64 why] w fun e w' => e = .returned (.agg #[.int .i64 why, .int .i64 ((ts[i]'h.il).at_ : Nat)]) ∧ Below w.heap.size w w' :=
  wrong_core p why (ts[i]'h.il).kind (ts[i]'h.il).num ⟨(ts[i]'h.il).text.toArray⟩ (ts[i]'h.il).at_ w (fun w1 hB => token_any p g cap ts i d full w1 (h.below hB))

theorem take_any (p g cap : Nat) (ts : List Tok) (i : Nat) (d : Int) (full : Bool) (w : World) (h : PP w p g cap ts i d full) (hi : i + 1 < ts.length) :
    Calls Tryz.prog 69 #[.pointer (some ⟨p, 0, none⟩)] w (PPost p g cap ts d tokIs (PSof ts i full).take w) := by
  have hd := PSof_hd ts i full h.il
  cases full
  · have e1 : (PSof ts i false).take = .ok (ts[i]'h.il) (PSof ts (i + 1) false) := by
      unfold PS.take
      rw [hd]
      show (if false = true then _ else Ans.ok (ts[i]'h.il) ⟨(ts.drop i).tail, false⟩) = _
      rw [if_neg (by simp), List.tail_drop]
      rfl
    rw [e1]
    refine (take_one p i (ts[i]'h.il).kind (ts[i]'h.il).num ⟨(ts[i]'h.il).text.toArray⟩ (ts[i]'h.il).at_ w h.c3 h.c1 h.f1 (by have := h.ln; omega) (fun w1 hB => token_any p g cap ts i d false w1 (h.below hB))).mono ?_
    rintro e w' ⟨rfl, w1, hB1, hB2⟩
    have h2 := (h.below hB1).next (i + 1) hi
    have hp := h.plt
    have hg := h.glt
    refine ⟨_, i + 1, false, rfl, rfl, rfl, h2.of_blocks (hB2.block p hp) (hB2.block g hg), ?_⟩
    have hS : Sole p w (w1.setCell ⟨p, 1, none⟩ (.int .i64 ((i : Int) + 1))) := (Sole.of_below hB1).trans (Sole.setCell w1 1 _)
    exact ⟨hB2.os.trans hS.os, hB2.tape.trans hS.tape, hB2.output.trans hS.output, Nat.le_trans hS.size hB2.size, fun b hb hbp => (hB2.block b hb).trans (hS.block b hb hbp)⟩
  · have e1 : (PSof ts i true).take = .no 42 (ts[i]'h.il).at_ := by
      unfold PS.take PS.bad
      rw [hd]
      rfl
    rw [e1]
    refine (take_full p ((ts[i]'h.il).at_ : Nat) w h.c3 (fun w1 hB => wrong_any p g cap ts i d 42 true w1 (h.below hB))).mono ?_
    rintro e w' ⟨rfl, hB⟩
    exact ⟨rfl, Sole.of_below hB⟩
end Go.Proofs.YteokdknaadckbaaGreatDoor
namespace Go.Proofs.YteokdknaadckbaaGreatDoor
open Go.RowKit

theorem Sole.below_after {p : Nat} {a b c : World} (h : Sole p a b) (k : Below a.heap.size b c) : Sole p a c :=
  ⟨k.os.trans h.os, k.tape.trans h.tape, k.output.trans h.output, Nat.le_trans h.size k.size, fun i hi hp => (k.block i hi).trans (h.block i hi hp)⟩

set_option maxRecDepth 4000 in
theorem ofKind_no (p : Nat) (kind k m : Int) (s : ByteArray) (a : Nat) (w : World) (hk : (k == kind) = false)
    (H0 : Hid (∀ w1, Below w.heap.size w w1 → Calls Tryz.prog 38 #[.pointer (some ⟨p, 0, none⟩)] w1 fun e w' => e = .returned (.agg #[.int .i64 k, .string s, .int .i64 m, .int .i64 a]) ∧ Below w1.heap.size w1 w'))
    (HW : Hid (∀ w1, Below w.heap.size w w1 → Calls Tryz.prog 74 #[.pointer (some ⟨p, 0, none⟩), .int .i64 40] w1 fun e w' => e = .returned (.agg #[.int .i64 40, .int .i64 a]) ∧ Below w1.heap.size w1 w')) :
    Calls Tryz.prog 139 #[.pointer (some ⟨p, 0, none⟩), .int .i64 kind] w fun e w' => e = .panicked [{ v := .iface 50 (.agg #[.int .i64 40, .int .i64 a]), recovered := false }] ∧ Below w.heap.size w w' := by
  have q0 := fld0 k m a s
  go_enter Tryz.func139, Tryz.ntmps139
  go_wp2_with fail
  refine (H0.out _ ((Below.refl _ _).alloc (Nat.le_refl _) _)).mono ?_
  rintro e w1 ⟨rfl, hB⟩
  have HB : Hid (Below w.heap.size w w1) := ((Below.refl _ _).alloc (Nat.le_refl _) _).trans (hB.mono (by simp))
  clear hB
  go_wp2_with fail
  refine (HW.out _ HB.out).mono ?_
  rintro e w2 ⟨rfl, hB⟩
  have HB2 : Hid (Below w.heap.size w w2) := HB.out.trans (hB.mono HB.out.size)
  clear hB
  go_wp2
  exact ⟨rfl, rfl, HB2.out⟩


set_option maxRecDepth 4000 in
theorem ofKind_yes (p g cap : Nat) (ts : List Tok) (d : Int) (k m : Int) (s : ByteArray) (a : Nat) (w : World) (hp : p < w.heap.size) (hg : g < w.heap.size) (r : Ans Tok)
    (H0 : Hid (∀ w1, Below w.heap.size w w1 → Calls Tryz.prog 38 #[.pointer (some ⟨p, 0, none⟩)] w1 fun e w' => e = .returned (.agg #[.int .i64 k, .string s, .int .i64 m, .int .i64 a]) ∧ Below w1.heap.size w1 w'))
    (HT : Hid (∀ w1, Below w.heap.size w w1 → Calls Tryz.prog 69 #[.pointer (some ⟨p, 0, none⟩)] w1 (PPost p g cap ts d tokIs r w1))) :
    Calls Tryz.prog 139 #[.pointer (some ⟨p, 0, none⟩), .int .i64 k] w (PPost p g cap ts d tokIs r w) := by
  have q0 := fld0 k m a s
  have HP : Hid (p < w.heap.size ∧ g < w.heap.size) := ⟨hp, hg⟩
  clear hp hg
  go_enter Tryz.func139, Tryz.ntmps139
  go_wp2_with fail
  refine (H0.out _ ((Below.refl _ _).alloc (Nat.le_refl _) _)).mono ?_
  rintro e w1 ⟨rfl, hB⟩
  have HB : Hid (Below w.heap.size w w1) := ((Below.refl _ _).alloc (Nat.le_refl _) _).trans (hB.mono (by simp))
  have HZ : Hid (w1.heap[w.heap.size]? = (w.alloc (.cells #[.int .i64 0, .string ⟨#[]⟩, .int .i64 0, .int .i64 0] 41)).heap[w.heap.size]? ∧ w.heap.size < w1.heap.size) := ⟨hB.block _ (by simp), by have := hB.size; simp at this; omega⟩
  clear hB
  go_wp2_with fail
  refine (HT.out _ HB.out).mono ?_
  cases r with
  | no why at_ =>
    rintro e w2 ⟨rfl, hS⟩
    have HS : Hid (Sole p w w2) := (Sole.of_below HB.out).trans hS
    clear hS
    go_wp2
    exact ⟨rfl, rfl, HS.out⟩
  | ok t st =>
    rintro e w2 ⟨v, i, full, rfl, rfl, rfl, hP, hS⟩
    have HPP : Hid (PP w2 p g cap ts i d full) := hP
    have HS : Hid (Sole p w1 w2) := hS
    have hz := (hS.block w.heap.size HZ.out.2 (Nat.ne_of_gt HP.out.1)).trans HZ.out.1
    have z0 : w2.cell? ⟨w.heap.size, 0, none⟩ = some (.int .i64 0) := by rw [(cells_same hz 0).1]; simp
    have y0 : w2.frozen? ⟨w.heap.size, 0, none⟩ = false := by rw [(cells_same hz 0).2]; simp
    have z1 : w2.cell? ⟨w.heap.size, 1, none⟩ = some (.string ⟨#[]⟩) := by rw [(cells_same hz 1).1]; simp
    have y1 : w2.frozen? ⟨w.heap.size, 1, none⟩ = false := by rw [(cells_same hz 1).2]; simp
    have z2 : w2.cell? ⟨w.heap.size, 2, none⟩ = some (.int .i64 0) := by rw [(cells_same hz 2).1]; simp
    have y2 : w2.frozen? ⟨w.heap.size, 2, none⟩ = false := by rw [(cells_same hz 2).2]; simp
    have z3 : w2.cell? ⟨w.heap.size, 3, none⟩ = some (.int .i64 0) := by rw [(cells_same hz 3).1]; simp
    have y3 : w2.frozen? ⟨w.heap.size, 3, none⟩ = false := by rw [(cells_same hz 3).2]; simp
    clear hz hP hS
    unfold tokV
    go_wp2
    have q := res4 w2 w.heap.size (.int .i64 t.kind) (.string ⟨t.text.toArray⟩) (.int .i64 t.num) (.int .i64 t.at_) z0 z1 z2 z3
    have hBz := below_set4 w2 w.heap.size w.heap.size (.int .i64 t.kind) (.string ⟨t.text.toArray⟩) (.int .i64 t.num) (.int .i64 t.at_) (Nat.le_refl _)
    generalize (((w2.setCell ⟨w.heap.size, 0, none⟩ (.int .i64 t.kind)).setCell ⟨w.heap.size, 1, none⟩ (.string ⟨t.text.toArray⟩)).setCell ⟨w.heap.size, 2, none⟩ (.int .i64 t.num)).setCell ⟨w.heap.size, 3, none⟩ (.int .i64 t.at_) = wz at q hBz ⊢
    obtain ⟨q0, q1, q2, q3⟩ := q
    exact bodyPost_ret (v := .agg #[.int .i64 t.kind, .string ⟨t.text.toArray⟩, .int .i64 t.num, .int .i64 t.at_]) (by simp [results, Tryz.results139, go_sem, q0, q1, q2, q3]) rfl
      ⟨_, i, full, rfl, rfl, rfl, HPP.out.of_blocks (hBz.block p HP.out.1) (hBz.block g HP.out.2), ((Sole.of_below HB.out).trans HS.out).below_after hBz⟩
end Go.Proofs.YteokdknaadckbaaGreatDoor
namespace Go.Proofs.YteokdknaadckbaaGreatDoor
open Go.RowKit

/-- the last token is the end: it has no text -/
def Ends (ts : List Tok) : Prop := ∀ j (h : j < ts.length), ts.length ≤ j + 1 → ts[j].kind = 5 ∧ ts[j].text = []
theorem Ends.kind {ts : List Tok} (h : Ends ts) {i : Nat} (hi : i < ts.length) (hk : ts[i].kind ≠ 5) : i + 1 < ts.length := by
  rcases Nat.lt_or_ge (i + 1) ts.length with h1 | h1
  · exact h1
  · exact absurd (h i hi h1).1 hk
theorem Ends.text {ts : List Tok} (h : Ends ts) {i : Nat} (hi : i < ts.length) (hk : ts[i].text ≠ []) : i + 1 < ts.length := by
  rcases Nat.lt_or_ge (i + 1) ts.length with h1 | h1
  · exact h1
  · exact absurd (h i hi h1).2 hk

theorem ofKind_any (p g cap : Nat) (ts : List Tok) (hE : Ends ts) (i : Nat) (d k : Int) (hk : k ≠ 5) (full : Bool) (w : World) (h : PP w p g cap ts i d full) :
    Calls Tryz.prog 139 #[.pointer (some ⟨p, 0, none⟩), .int .i64 k] w (PPost p g cap ts d tokIs ((PSof ts i full).ofKind k) w) := by
  have hd := PSof_hd ts i full h.il
  unfold PS.ofKind PS.bad
  rw [hd]
  by_cases e : (ts[i]'h.il).kind = k
  · rw [if_pos e, ← e]
    exact ofKind_yes p g cap ts d _ (ts[i]'h.il).num ⟨(ts[i]'h.il).text.toArray⟩ (ts[i]'h.il).at_ w h.plt h.glt _ (fun w1 hB => token_any p g cap ts i d full w1 (h.below hB))
      (fun w1 hB => take_any p g cap ts i d full w1 (h.below hB) (hE.kind h.il (by rw [e]; exact hk)))
  · rw [if_neg e]
    refine (ofKind_no p k (ts[i]'h.il).kind (ts[i]'h.il).num ⟨(ts[i]'h.il).text.toArray⟩ (ts[i]'h.il).at_ w (by simp [e]) (fun w1 hB => token_any p g cap ts i d full w1 (h.below hB)) (fun w1 hB => wrong_any p g cap ts i d 40 full w1 (h.below hB))).mono ?_
    rintro e' w' ⟨rfl, hB⟩
    exact ⟨rfl, Sole.of_below hB⟩

theorem sees_any (p g cap : Nat) (ts : List Tok) (i : Nat) (d : Int) (full : Bool) (t : ByteArray) (w : World) (h : PP w p g cap ts i d full) :
    Calls Tryz.prog 75 #[.pointer (some ⟨p, 0, none⟩), .string t] w fun e w' => e = .returned (.bool ((PSof ts i full).sees t.toList)) ∧ Below w.heap.size w w' := by
  unfold PS.sees
  rw [PSof_hd ts i full h.il]
  have hx := sees_core p (ts[i]'h.il).kind (ts[i]'h.il).num ⟨(ts[i]'h.il).text.toArray⟩ t (ts[i]'h.il).at_ w (token_any p g cap ts i d full w h)
  rw [ByteArray.toList_mk] at hx
  exact hx

set_option maxRecDepth 4000 in
theorem name_core (p g cap : Nat) (ts : List Tok) (d : Int) (w : World) (hp : p < w.heap.size) (hg : g < w.heap.size) (r : Ans Tok)
    (HT : Hid (∀ w1, Below w.heap.size w w1 → Calls Tryz.prog 139 #[.pointer (some ⟨p, 0, none⟩), .int .i64 1] w1 (PPost p g cap ts d tokIs r w1))) :
    Calls Tryz.prog 108 #[.pointer (some ⟨p, 0, none⟩)] w (PPost p g cap ts d tokIs r w) := by
  have HP : Hid (p < w.heap.size ∧ g < w.heap.size) := ⟨hp, hg⟩
  clear hp hg
  go_enter Tryz.func108, Tryz.ntmps108
  go_wp2_with fail
  have HB : Hid (Below w.heap.size w (w.alloc (.cells #[.int .i64 0, .string ⟨#[]⟩, .int .i64 0, .int .i64 0] 41))) := (Below.refl _ _).alloc (Nat.le_refl _) _
  refine (HT.out _ HB.out).mono ?_
  cases r with
  | no why at_ =>
    rintro e w2 ⟨rfl, hS⟩
    have HS : Hid (Sole p w w2) := (Sole.of_below HB.out).trans hS
    clear hS
    go_wp2
    exact ⟨rfl, rfl, HS.out⟩
  | ok t st =>
    rintro e w2 ⟨v, i, full, rfl, rfl, rfl, hP, hS⟩
    have HPP : Hid (PP w2 p g cap ts i d full) := hP
    have HS : Hid (Sole p w w2) := (Sole.of_below HB.out).trans hS
    have hz := hS.block w.heap.size (by simp) (Nat.ne_of_gt HP.out.1)
    have z0 : w2.cell? ⟨w.heap.size, 0, none⟩ = some (.int .i64 0) := by rw [(cells_same hz 0).1]; simp
    have y0 : w2.frozen? ⟨w.heap.size, 0, none⟩ = false := by rw [(cells_same hz 0).2]; simp
    have z1 : w2.cell? ⟨w.heap.size, 1, none⟩ = some (.string ⟨#[]⟩) := by rw [(cells_same hz 1).1]; simp
    have y1 : w2.frozen? ⟨w.heap.size, 1, none⟩ = false := by rw [(cells_same hz 1).2]; simp
    have z2 : w2.cell? ⟨w.heap.size, 2, none⟩ = some (.int .i64 0) := by rw [(cells_same hz 2).1]; simp
    have y2 : w2.frozen? ⟨w.heap.size, 2, none⟩ = false := by rw [(cells_same hz 2).2]; simp
    have z3 : w2.cell? ⟨w.heap.size, 3, none⟩ = some (.int .i64 0) := by rw [(cells_same hz 3).1]; simp
    have y3 : w2.frozen? ⟨w.heap.size, 3, none⟩ = false := by rw [(cells_same hz 3).2]; simp
    clear hz hP hS
    unfold tokV
    go_wp2
    have q := res4 w2 w.heap.size (.int .i64 t.kind) (.string ⟨t.text.toArray⟩) (.int .i64 t.num) (.int .i64 t.at_) z0 z1 z2 z3
    have hBz := below_set4 w2 w.heap.size w.heap.size (.int .i64 t.kind) (.string ⟨t.text.toArray⟩) (.int .i64 t.num) (.int .i64 t.at_) (Nat.le_refl _)
    generalize (((w2.setCell ⟨w.heap.size, 0, none⟩ (.int .i64 t.kind)).setCell ⟨w.heap.size, 1, none⟩ (.string ⟨t.text.toArray⟩)).setCell ⟨w.heap.size, 2, none⟩ (.int .i64 t.num)).setCell ⟨w.heap.size, 3, none⟩ (.int .i64 t.at_) = wz at q hBz ⊢
    obtain ⟨q0, q1, q2, q3⟩ := q
    exact bodyPost_ret (v := .agg #[.int .i64 t.kind, .string ⟨t.text.toArray⟩, .int .i64 t.num, .int .i64 t.at_]) (by simp [results, Tryz.results108, go_sem, q0, q1, q2, q3]) rfl
      ⟨_, i, full, rfl, rfl, rfl, HPP.out.of_blocks (hBz.block p HP.out.1) (hBz.block g HP.out.2), HS.out.below_after hBz⟩
theorem name_any (p g cap : Nat) (ts : List Tok) (hE : Ends ts) (i : Nat) (d : Int) (full : Bool) (w : World) (h : PP w p g cap ts i d full) :
    Calls Tryz.prog 108 #[.pointer (some ⟨p, 0, none⟩)] w (PPost p g cap ts d tokIs (nameP (PSof ts i full)) w) :=
  name_core p g cap ts d w h.plt h.glt _ (fun w1 hB => ofKind_any p g cap ts hE i d 1 (by decide) full w1 (h.below hB))
end Go.Proofs.YteokdknaadckbaaGreatDoor
namespace Go.Proofs.YteokdknaadckbaaGreatDoor
open Go.RowKit

def kidV (k : Int) (n : List UInt8) (m : Int) (a : Nat) (sl : Value) : Value := .agg #[.int .i64 k, .string ⟨n.toArray⟩, .int .i64 m, .int .i64 a, sl]

mutual
/-- a tree as a value; each of its blocks is one of A -/
def TreeAt (A : Nat → Prop) (w : World) : Tree → Value → Prop
  | .node k n m a ks, v => ∃ sl, v = kidV k n m a sl ∧ ∃ xs, w.ownsRow 0 29 5 sl ks.length xs ∧ (∀ g, sl.ownBlock = some g → A g) ∧ RowV (fun b => A b ∧ sl.ownBlock ≠ some b) w ks xs
/-- trees beside one another, as cells -/
def RowV (A : Nat → Prop) (w : World) : List Tree → List Value → Prop
  | [], xs => xs = []
  | t :: ts, xs => ∃ v0 v1 v2 v3 v4 ys, xs = v0 :: v1 :: v2 :: v3 :: v4 :: ys ∧ TreeAt A w t (.agg #[v0, v1, v2, v3, v4]) ∧ RowV A w ts ys
end

/-- a list of trees -/
def ListAt (A : Nat → Prop) (w : World) (ks : List Tree) (sl : Value) : Prop :=
  ∃ xs, w.ownsRow 0 29 5 sl ks.length xs ∧ (∀ g, sl.ownBlock = some g → A g) ∧ RowV (fun b => A b ∧ sl.ownBlock ≠ some b) w ks xs

theorem treeAt_node {A : Nat → Prop} {w : World} {k : Int} {n : List UInt8} {m : Int} {a : Nat} {ks : List Tree} {v : Value} : TreeAt A w (.node k n m a ks) v ↔ ∃ sl, v = kidV k n m a sl ∧ ListAt A w ks sl := by
  rw [TreeAt]; rfl
theorem rowV_nil {A : Nat → Prop} {w : World} : RowV A w [] [] := by rw [RowV]
theorem rowV_cons {A : Nat → Prop} {w : World} {t : Tree} {ts : List Tree} {xs : List Value} : RowV A w (t :: ts) xs ↔ ∃ v0 v1 v2 v3 v4 ys, xs = v0 :: v1 :: v2 :: v3 :: v4 :: ys ∧ TreeAt A w t (.agg #[v0, v1, v2, v3, v4]) ∧ RowV A w ts ys := by rw [RowV]
theorem listAt_nil {A : Nat → Prop} {w : World} : ListAt A w [] (.slice none 0 0) := ⟨[], World.ownsRow_nil w 0 29 5, (fun g hg => by simp [Value.ownBlock] at hg), rowV_nil⟩

theorem owns_block {w w' : World} {base : Nat} {e : TypeId} {size : Nat} {v : Value} {n : Nat} {xs : List Value} (h : w.ownsRow base e size v n xs) (hb : ∀ g, v.ownBlock = some g → g < w.heap.size → w'.heap[g]? = w.heap[g]?) : w'.ownsRow base e size v n xs := by
  refine ⟨h.1, ?_⟩
  rcases h.2 with h0 | ⟨g, cap, cur, rfl, hbs, hg, rest⟩
  · exact Or.inl h0
  · exact Or.inr ⟨g, cap, cur, rfl, hbs, (hb g rfl (Array.getElem?_eq_some_iff.1 hg).1).trans hg, rest⟩

mutual
theorem TreeAt.frame {A A' : Nat → Prop} {w w' : World} (hA : ∀ b, A b → A' b) (h : ∀ b, A b → b < w.heap.size → w'.heap[b]? = w.heap[b]?) : (t : Tree) → (v : Value) → TreeAt A w t v → TreeAt A' w' t v
  | .node k n m a ks, v => by
    intro ht
    rw [treeAt_node] at ht ⊢
    obtain ⟨sl, e, xs, ho, hg, hr⟩ := ht
    exact ⟨sl, e, xs, owns_block ho (fun g e hl => h g (hg g e) hl), fun g e => hA g (hg g e), RowV.frame (fun b hb => ⟨hA b hb.1, hb.2⟩) (fun b hb => h b hb.1) ks xs hr⟩
theorem RowV.frame {A A' : Nat → Prop} {w w' : World} (hA : ∀ b, A b → A' b) (h : ∀ b, A b → b < w.heap.size → w'.heap[b]? = w.heap[b]?) : (ts : List Tree) → (xs : List Value) → RowV A w ts xs → RowV A' w' ts xs
  | [], xs => fun hr => by rw [RowV] at hr ⊢; exact hr
  | t :: ts, xs => by
    intro hr
    rw [rowV_cons] at hr ⊢
    obtain ⟨v0, v1, v2, v3, v4, ys, e, ht, hr⟩ := hr
    exact ⟨v0, v1, v2, v3, v4, ys, e, TreeAt.frame hA h t _ ht, RowV.frame hA h ts ys hr⟩
end
theorem ListAt.frame {A A' : Nat → Prop} {w w' : World} (hA : ∀ b, A b → A' b) (h : ∀ b, A b → b < w.heap.size → w'.heap[b]? = w.heap[b]?) {ks : List Tree} {sl : Value} (hl : ListAt A w ks sl) : ListAt A' w' ks sl := by
  obtain ⟨xs, ho, hg, hr⟩ := hl
  exact ⟨xs, owns_block ho (fun g e hl => h g (hg g e) hl), fun g e => hA g (hg g e), RowV.frame (fun b hb => ⟨hA b hb.1, hb.2⟩) (fun b hb => h b hb.1) ks xs hr⟩


mutual
theorem TreeAt.there {A : Nat → Prop} {w : World} : (t : Tree) → (v : Value) → TreeAt A w t v → TreeAt (fun b => A b ∧ b < w.heap.size) w t v
  | .node k n m a ks, v => by
    intro ht
    rw [treeAt_node] at ht ⊢
    obtain ⟨sl, e, xs, ho, hg, hr⟩ := ht
    exact ⟨sl, e, xs, ho, fun g e => ⟨hg g e, (ho.lt g e).2⟩, RowV.frame (fun b hb => ⟨⟨hb.1.1, hb.2⟩, hb.1.2⟩) (fun _ _ _ => rfl) ks xs (RowV.there ks xs hr)⟩
theorem RowV.there {A : Nat → Prop} {w : World} : (ts : List Tree) → (xs : List Value) → RowV A w ts xs → RowV (fun b => A b ∧ b < w.heap.size) w ts xs
  | [], xs => fun hr => by rw [RowV] at hr ⊢; exact hr
  | t :: ts, xs => by
    intro hr
    rw [rowV_cons] at hr ⊢
    obtain ⟨v0, v1, v2, v3, v4, ys, e, ht, hr⟩ := hr
    exact ⟨v0, v1, v2, v3, v4, ys, e, TreeAt.there t _ ht, RowV.there ts ys hr⟩
end
theorem RowV.append {A : Nat → Prop} {w : World} : (ts us : List Tree) → (xs ys : List Value) → RowV A w ts xs → RowV A w us ys → RowV A w (ts ++ us) (xs ++ ys)
  | [], us, xs, ys => fun h k => by rw [RowV] at h; subst h; exact k
  | t :: ts, us, xs, ys => fun h k => by
    rw [rowV_cons] at h
    obtain ⟨v0, v1, v2, v3, v4, zs, rfl, ht, hr⟩ := h
    rw [List.cons_append, rowV_cons]
    exact ⟨v0, v1, v2, v3, v4, zs ++ ys, rfl, ht, RowV.append ts us zs ys hr k⟩
theorem ListAt.len {A : Nat → Prop} {w : World} {ks : List Tree} {sl : Value} (h : ListAt A w ks sl) : ∃ o c, sl = .slice o ks.length c := by
  obtain ⟨xs, ho, _, _⟩ := h
  rcases ho.2 with ⟨rfl, h0⟩ | ⟨g, cap, cur, rfl, _⟩
  · exact ⟨none, 0, by rw [h0]⟩
  · exact ⟨_, cap, rfl⟩
theorem ListAt.shape {A : Nat → Prop} {w : World} {ks : List Tree} {sl : Value} (h : ListAt A w ks sl) : ∃ o n c, sl = .slice o n c := by
  obtain ⟨o, c, e⟩ := h.len
  exact ⟨o, _, c, e⟩

/-- made anew: each of its blocks lies behind B -/
def Fresh (B : Nat) : Nat → Prop := fun b => B ≤ b
def treeIs (B : Nat) (t : Tree) (w : World) (v : Value) : Prop := TreeAt (Fresh B) w t v
def listIs (B : Nat) (ks : List Tree) (w : World) (v : Value) : Prop := ListAt (Fresh B) w ks v
theorem treeIs.below {B B' C : Nat} {w w' : World} {t : Tree} {v : Value} (h : treeIs B t w v) (hB : B' ≤ B) (hw : Below C w w') (hC : w.heap.size ≤ C) : treeIs B' t w' v :=
  TreeAt.frame (fun _ hb => Nat.le_trans hB hb) (fun b _ hl => hw.block b (Nat.lt_of_lt_of_le hl hC)) t v h
theorem treeIs.sole {B B' p : Nat} {w w' : World} {t : Tree} {v : Value} (h : treeIs B t w v) (hB : B' ≤ B) (hp : p < B) (hw : Sole p w w') : treeIs B' t w' v :=
  TreeAt.frame (fun _ hb => Nat.le_trans hB hb) (fun b hb hl => hw.block b hl (by have : B ≤ b := hb; omega)) t v h
/-- but for a block of its own, r, that is not one of the tree's -/
theorem treeIs.but {B B' r : Nat} {w w' : World} {t : Tree} {v : Value} (h : treeIs B t w v) (hB : B' ≤ B) (hr : r < B) (hw : ∀ b, b < w.heap.size → b ≠ r → w'.heap[b]? = w.heap[b]?) : treeIs B' t w' v :=
  TreeAt.frame (fun _ hb => Nat.le_trans hB hb) (fun b hb hl => hw b hl (by have : B ≤ b := hb; omega)) t v h
theorem listIs.below {B B' C : Nat} {w w' : World} {t : List Tree} {v : Value} (h : listIs B t w v) (hB : B' ≤ B) (hw : Below C w w') (hC : w.heap.size ≤ C) : listIs B' t w' v :=
  ListAt.frame (fun _ hb => Nat.le_trans hB hb) (fun b _ hl => hw.block b (Nat.lt_of_lt_of_le hl hC)) h
theorem listIs.sole {B B' p : Nat} {w w' : World} {t : List Tree} {v : Value} (h : listIs B t w v) (hB : B' ≤ B) (hp : p < B) (hw : Sole p w w') : listIs B' t w' v :=
  ListAt.frame (fun _ hb => Nat.le_trans hB hb) (fun b hb hl => hw.block b hl (by have : B ≤ b := hb; omega)) h
theorem listIs.but {B B' r : Nat} {w w' : World} {t : List Tree} {v : Value} (h : listIs B t w v) (hB : B' ≤ B) (hr : r < B) (hw : ∀ b, b < w.heap.size → b ≠ r → w'.heap[b]? = w.heap[b]?) : listIs B' t w' v :=
  ListAt.frame (fun _ hb => Nat.le_trans hB hb) (fun b hb hl => hw b hl (by have : B ≤ b := hb; omega)) h

/-- a block that was made of trees' cells -/
def rowObj (xs : List Value) : Obj := .cells xs.toArray 29 (0, 0)
theorem owns_lit {w : World} {q n : Nat} {xs : List Value} (h : w.heap[q]? = some (rowObj xs)) (hx : xs.length = n * 5) (hn : n ≤ 1000) : w.ownsRow 0 29 5 (.slice (some ⟨q, 0, none⟩) n n) n xs :=
  ⟨hx, Or.inr ⟨q, n, xs.toArray, rfl, Nat.zero_le _, h, Nat.le_refl _, (by unfold maxLen; omega), by simp [hx], by rw [← hx]; simp⟩⟩

/-- the cells of trees that lie beside one another -/
theorem rowV_len {A : Nat → Prop} {w : World} : (ts : List Tree) → (xs : List Value) → RowV A w ts xs → xs.length = ts.length * 5
  | [], xs => fun h => by rw [RowV] at h; subst h; rfl
  | t :: ts, xs => fun h => by
    rw [rowV_cons] at h
    obtain ⟨v0, v1, v2, v3, v4, ys, rfl, _, hr⟩ := h
    have := rowV_len ts ys hr
    simp only [List.length_cons]
    omega
theorem rowV_one {A : Nat → Prop} {w : World} {k m : Int} {n : List UInt8} {a : Nat} {ks : List Tree} {sl : Value} (h : TreeAt A w (.node k n m a ks) (kidV k n m a sl)) : RowV A w [.node k n m a ks] [.int .i64 k, .string ⟨n.toArray⟩, .int .i64 m, .int .i64 a, sl] :=
  rowV_cons.2 ⟨_, _, _, _, _, [], rfl, h, rowV_nil⟩
theorem rowV_oneCell {A : Nat → Prop} {w : World} : (ts : List Tree) → (xs : List Value) → RowV A w ts xs → ∀ u ∈ xs, u.oneCell' = true
  | [], xs => fun h => by rw [RowV] at h; subst h; simp
  | t :: ts, xs => fun h => by
    rw [rowV_cons] at h
    obtain ⟨v0, v1, v2, v3, v4, ys, rfl, ht, hr⟩ := h
    obtain ⟨k, n, m, a, ks⟩ := t
    obtain ⟨sl, e, hl⟩ := treeAt_node.1 ht
    obtain ⟨o, c, rfl⟩ := hl.len
    unfold kidV at e
    simp only [Value.agg.injEq, Array.mk.injEq, List.cons.injEq] at e
    obtain ⟨rfl, rfl, rfl, rfl, rfl, _⟩ := e
    intro u hu
    simp only [List.mem_cons] at hu
    rcases hu with rfl | rfl | rfl | rfl | rfl | hu
    · simp [Value.oneCell']
    · simp [Value.oneCell']
    · simp [Value.oneCell']
    · simp [Value.oneCell']
    · simp [Value.oneCell']
    · exact rowV_oneCell ts ys hr u hu

/-- trees appended to a list that lies elsewhere -/
theorem list_more {B : Nat} {w w' : World} {ks us : List Tree} {sl v' : Value} {xs ys : List Value} (hb : ∀ g, sl.ownBlock = some g → B ≤ g) (hr : RowV (fun b => B ≤ b ∧ sl.ownBlock ≠ some b) w ks xs)
    (hu : RowV (fun b => B ≤ b ∧ sl.ownBlock ≠ some b) w us ys) (ho' : w'.ownsRow 0 29 5 v' (ks.length + us.length) (xs ++ ys)) (hg : w.grownBy w' sl.ownBlock) (H : Nat) (hH : w.heap.size ≤ H) (hBH : B ≤ H) (hat : v'.ownBlock = sl.ownBlock ∨ v'.ownBlock = some H) : listIs B (ks ++ us) w' v' := by
  refine ⟨xs ++ ys, by rw [List.length_append]; exact ho', ?_, ?_⟩
  · intro g e
    rcases hat with h | h
    · exact hb g (h ▸ e)
    · rw [h] at e; cases e; exact hBH
  · have hall := RowV.there _ _ (RowV.append ks us xs ys hr hu)
    refine RowV.frame (fun b hb => ⟨hb.1.1, ?_⟩) (fun b hb hl => hg.block b hl (fun e => hb.1.2 e.symm)) _ _ hall
    rcases hat with h | h
    · rw [h]; exact hb.1.2
    · rw [h]; intro e; cases e; exact absurd hb.2 (by omega)
end Go.Proofs.YteokdknaadckbaaGreatDoor
namespace Go.Proofs.YteokdknaadckbaaGreatDoor
open Go.RowKit

/-- a struct of five cells, stored -/
theorem res5 (u : World) (r : Nat) (v0 v1 v2 v3 v4 : Value) {x0 x1 x2 x3 x4 : Value} (h0 : u.cell? ⟨r, 0, none⟩ = some x0) (h1 : u.cell? ⟨r, 1, none⟩ = some x1) (h2 : u.cell? ⟨r, 2, none⟩ = some x2) (h3 : u.cell? ⟨r, 3, none⟩ = some x3) (h4 : u.cell? ⟨r, 4, none⟩ = some x4) :
    (((((u.setCell ⟨r, 0, none⟩ v0).setCell ⟨r, 1, none⟩ v1).setCell ⟨r, 2, none⟩ v2).setCell ⟨r, 3, none⟩ v3).setCell ⟨r, 4, none⟩ v4).cell? ⟨r, 0, none⟩ = some v0 ∧
    (((((u.setCell ⟨r, 0, none⟩ v0).setCell ⟨r, 1, none⟩ v1).setCell ⟨r, 2, none⟩ v2).setCell ⟨r, 3, none⟩ v3).setCell ⟨r, 4, none⟩ v4).cell? ⟨r, 1, none⟩ = some v1 ∧
    (((((u.setCell ⟨r, 0, none⟩ v0).setCell ⟨r, 1, none⟩ v1).setCell ⟨r, 2, none⟩ v2).setCell ⟨r, 3, none⟩ v3).setCell ⟨r, 4, none⟩ v4).cell? ⟨r, 2, none⟩ = some v2 ∧
    (((((u.setCell ⟨r, 0, none⟩ v0).setCell ⟨r, 1, none⟩ v1).setCell ⟨r, 2, none⟩ v2).setCell ⟨r, 3, none⟩ v3).setCell ⟨r, 4, none⟩ v4).cell? ⟨r, 3, none⟩ = some v3 ∧
    (((((u.setCell ⟨r, 0, none⟩ v0).setCell ⟨r, 1, none⟩ v1).setCell ⟨r, 2, none⟩ v2).setCell ⟨r, 3, none⟩ v3).setCell ⟨r, 4, none⟩ v4).cell? ⟨r, 4, none⟩ = some v4 := by
  obtain ⟨a0, a1, a2, a3⟩ := res4 u r v0 v1 v2 v3 h0 h1 h2 h3
  have a4 : ((((u.setCell ⟨r, 0, none⟩ v0).setCell ⟨r, 1, none⟩ v1).setCell ⟨r, 2, none⟩ v2).setCell ⟨r, 3, none⟩ v3).cell? ⟨r, 4, none⟩ = some x4 := by
    rw [World.cell?_setCell_other _ _ _ _ (by simp), World.cell?_setCell_other _ _ _ _ (by simp), World.cell?_setCell_other _ _ _ _ (by simp), World.cell?_setCell_other _ _ _ _ (by simp)]; exact h4
  exact ⟨(World.cell?_setCell_other _ _ _ _ (by simp)).trans a0, (World.cell?_setCell_other _ _ _ _ (by simp)).trans a1, (World.cell?_setCell_other _ _ _ _ (by simp)).trans a2, (World.cell?_setCell_other _ _ _ _ (by simp)).trans a3, World.cell?_setCell_same _ _ _ a4⟩
theorem below_set5 (u : World) (B r : Nat) (v0 v1 v2 v3 v4 : Value) (h : B ≤ r) : Below B u (((((u.setCell ⟨r, 0, none⟩ v0).setCell ⟨r, 1, none⟩ v1).setCell ⟨r, 2, none⟩ v2).setCell ⟨r, 3, none⟩ v3).setCell ⟨r, 4, none⟩ v4) :=
  Below.setCell (p := ⟨r, 4, none⟩) (below_set4 u B r v0 v1 v2 v3 h) h _
/-- a block of five cells as alloc lays it, and what stays of it -/
structure Tre (w : World) (r : Nat) : Prop where
  z0 : w.cell? ⟨r, 0, none⟩ = some (.int .i64 0)
  z1 : w.cell? ⟨r, 1, none⟩ = some (.string ⟨#[]⟩)
  z2 : w.cell? ⟨r, 2, none⟩ = some (.int .i64 0)
  z3 : w.cell? ⟨r, 3, none⟩ = some (.int .i64 0)
  z4 : w.cell? ⟨r, 4, none⟩ = some (.slice none 0 0)
  y0 : w.frozen? ⟨r, 0, none⟩ = false
  y1 : w.frozen? ⟨r, 1, none⟩ = false
  y2 : w.frozen? ⟨r, 2, none⟩ = false
  y3 : w.frozen? ⟨r, 3, none⟩ = false
  y4 : w.frozen? ⟨r, 4, none⟩ = false
theorem Tre.made (w : World) (t : TypeId) : Tre (w.alloc (.cells #[.int .i64 0, .string ⟨#[]⟩, .int .i64 0, .int .i64 0, .slice none 0 0] t)) w.heap.size := by
  constructor <;> simp
theorem Tre.block {w w' : World} {r : Nat} (h : Tre w r) (e : w'.heap[r]? = w.heap[r]?) : Tre w' r :=
  ⟨(cells_same e 0).1.trans h.z0, (cells_same e 1).1.trans h.z1, (cells_same e 2).1.trans h.z2, (cells_same e 3).1.trans h.z3, (cells_same e 4).1.trans h.z4,
   (cells_same e 0).2.trans h.y0, (cells_same e 1).2.trans h.y1, (cells_same e 2).2.trans h.y2, (cells_same e 3).2.trans h.y3, (cells_same e 4).2.trans h.y4⟩
theorem bld03 (k a : Int) (w : World) : (Instr.build 29 #[(0, .int .i64 k), (3, .int .i64 a)]).run Tryz.prog w = .ok (.agg #[.int .i64 k, .string ⟨#[]⟩, .int .i64 0, .int .i64 a, .slice none 0 0]) w := by kernel_rfl
theorem bld023 (k m a : Int) (w : World) : (Instr.build 29 #[(0, .int .i64 k), (2, .int .i64 m), (3, .int .i64 a)]).run Tryz.prog w = .ok (.agg #[.int .i64 k, .string ⟨#[]⟩, .int .i64 m, .int .i64 a, .slice none 0 0]) w := by kernel_rfl
theorem bld0134 (k a : Int) (s : ByteArray) (o : Option Addr) (n c : Nat) (w : World) : (Instr.build 29 #[(0, .int .i64 k), (1, .string s), (3, .int .i64 a), (4, .slice o n c)]).run Tryz.prog w = .ok (.agg #[.int .i64 k, .string s, .int .i64 0, .int .i64 a, .slice o n c]) w := by kernel_rfl

set_option maxRecDepth 4000 in
theorem alone_core (p g cap : Nat) (ts : List Tok) (d k : Int) (w : World) (hp : p < w.heap.size) (hg : g < w.heap.size) (r : Ans Tok)
    (HT : Hid (∀ w1, Below w.heap.size w w1 → Calls Tryz.prog 69 #[.pointer (some ⟨p, 0, none⟩)] w1 (PPost p g cap ts d tokIs r w1))) :
    Calls Tryz.prog 112 #[.pointer (some ⟨p, 0, none⟩), .int .i64 k] w (PPost p g cap ts d (treeIs w.heap.size) (r.bind fun t s => .ok (.node k [] 0 t.at_ []) s) w) := by
  have HP : Hid (p < w.heap.size ∧ g < w.heap.size) := ⟨hp, hg⟩
  clear hp hg
  go_enter Tryz.func112, Tryz.ntmps112
  go_wp2_with fail
  have HB : Hid (Below w.heap.size w (w.alloc (.cells #[.int .i64 0, .string ⟨#[]⟩, .int .i64 0, .int .i64 0, .slice none 0 0] 29))) := (Below.refl _ _).alloc (Nat.le_refl _) _
  refine (HT.out _ HB.out).mono ?_
  cases r with
  | no why at_ =>
    rintro e w2 ⟨rfl, hS⟩
    have HS : Hid (Sole p w w2) := (Sole.of_below HB.out).trans hS
    clear hS
    go_wp2
    exact ⟨rfl, rfl, HS.out⟩
  | ok t st =>
    rintro e w2 ⟨v, i, full, rfl, rfl, rfl, hP, hS⟩
    have HPP : Hid (PP w2 p g cap ts i d full) := hP
    have HS : Hid (Sole p w w2) := (Sole.of_below HB.out).trans hS
    obtain ⟨z0, z1, z2, z3, z4, y0, y1, y2, y3, y4⟩ := (Tre.made w 29).block (hS.block w.heap.size (by simp) (Nat.ne_of_gt HP.out.1))
    clear hP hS
    unfold tokV
    have q3 := fld3 t.kind t.num t.at_ ⟨t.text.toArray⟩
    have qb := bld03 k t.at_
    go_wp2
    have q := res5 w2 w.heap.size (.int .i64 k) (.string ⟨#[]⟩) (.int .i64 0) (.int .i64 t.at_) (.slice none 0 0) z0 z1 z2 z3 z4
    have hBz := below_set5 w2 w.heap.size w.heap.size (.int .i64 k) (.string ⟨#[]⟩) (.int .i64 0) (.int .i64 t.at_) (.slice none 0 0) (Nat.le_refl _)
    generalize ((((w2.setCell ⟨w.heap.size, 0, none⟩ (.int .i64 k)).setCell ⟨w.heap.size, 1, none⟩ (.string ⟨#[]⟩)).setCell ⟨w.heap.size, 2, none⟩ (.int .i64 0)).setCell ⟨w.heap.size, 3, none⟩ (.int .i64 t.at_)).setCell ⟨w.heap.size, 4, none⟩ (.slice none 0 0) = wz at q hBz ⊢
    obtain ⟨q0, q1, q2, q3, q4⟩ := q
    exact bodyPost_ret (v := .agg #[.int .i64 k, .string ⟨#[]⟩, .int .i64 0, .int .i64 t.at_, .slice none 0 0]) (by simp [results, Tryz.results112, go_sem, q0, q1, q2, q3, q4]) rfl
      ⟨_, i, full, rfl, treeAt_node.2 ⟨_, rfl, listAt_nil⟩, rfl, HPP.out.of_blocks (hBz.block p HP.out.1) (hBz.block g HP.out.2), HS.out.below_after hBz⟩
end Go.Proofs.YteokdknaadckbaaGreatDoor
namespace Go.Proofs.YteokdknaadckbaaGreatDoor
open Go.RowKit

set_option maxRecDepth 4000 in
theorem named_any (k : Int) (t : Tok) (o : Option Addr) (n c : Nat) (w : World) :
    Calls Tryz.prog 109 #[.int .i64 k, tokV t, .slice o n c] w fun e w' => e = .returned (kidV k t.text 0 t.at_ (.slice o n c)) ∧ Below w.heap.size w w' := by
  unfold tokV kidV
  have qb := bld0134 k t.at_ ⟨t.text.toArray⟩ o n c
  obtain ⟨wb, hwb⟩ : ∃ wb, w.alloc (.cells #[.int .i64 t.kind, .string ⟨t.text.toArray⟩, .int .i64 t.num, .int .i64 t.at_] 41) = wb := ⟨_, rfl⟩
  obtain ⟨wa, hwa⟩ : ∃ wa, wb.alloc (.cells #[.int .i64 0, .string ⟨#[]⟩, .int .i64 0, .int .i64 0, .slice none 0 0] 29) = wa := ⟨_, rfl⟩
  have hs : wb.heap.size = w.heap.size + 1 := by rw [← hwb]; simp
  have l1 : wa.cell? ⟨w.heap.size, 1, none⟩ = some (.string ⟨t.text.toArray⟩) := by rw [← hwa, World.cell?_alloc_lt _ _ _ (show w.heap.size < wb.heap.size by omega), ← hwb]; simp
  have l3 : wa.cell? ⟨w.heap.size, 3, none⟩ = some (.int .i64 t.at_) := by rw [← hwa, World.cell?_alloc_lt _ _ _ (show w.heap.size < wb.heap.size by omega), ← hwb]; simp
  obtain ⟨z0, z1, z2, z3, z4, y0, y1, y2, y3, y4⟩ : Tre wa (w.heap.size + 1) := by rw [← hwa, ← hs]; exact Tre.made wb 29
  have HB : Hid (Below w.heap.size w wa) := by
    show Below w.heap.size w wa
    rw [← hwa]
    refine Below.alloc ?_ (by omega) _
    rw [← hwb]
    exact (Below.refl _ _).alloc (Nat.le_refl _) _
  go_enter Tryz.func109, Tryz.ntmps109
  go_wp2
  have q := res5 wa (w.heap.size + 1) (.int .i64 k) (.string ⟨t.text.toArray⟩) (.int .i64 0) (.int .i64 t.at_) (.slice o n c) z0 z1 z2 z3 z4
  have hBz := below_set5 wa w.heap.size (w.heap.size + 1) (.int .i64 k) (.string ⟨t.text.toArray⟩) (.int .i64 0) (.int .i64 t.at_) (.slice o n c) (by omega)
  generalize ((((wa.setCell ⟨w.heap.size + 1, 0, none⟩ (.int .i64 k)).setCell ⟨w.heap.size + 1, 1, none⟩ (.string ⟨t.text.toArray⟩)).setCell ⟨w.heap.size + 1, 2, none⟩ (.int .i64 0)).setCell ⟨w.heap.size + 1, 3, none⟩ (.int .i64 t.at_)).setCell ⟨w.heap.size + 1, 4, none⟩ (.slice o n c) = wz at q hBz ⊢
  obtain ⟨q0, q1, q2, q3, q4⟩ := q
  exact bodyPost_ret (v := .agg #[.int .i64 k, .string ⟨t.text.toArray⟩, .int .i64 0, .int .i64 t.at_, .slice o n c]) (by simp [results, Tryz.results109, go_sem, q0, q1, q2, q3, q4]) rfl ⟨rfl, HB.out.trans hBz⟩
end Go.Proofs.YteokdknaadckbaaGreatDoor
namespace Go.Proofs.YteokdknaadckbaaGreatDoor
open Go.RowKit

def wantL : List (List UInt8) → PS → Ans Unit
  | [], s => .ok () s
  | t :: ts, s => (s.want t).bind fun _ s => wantL ts s
def unitIs (_ : Unit) (_ : World) (v : Value) : Prop := v = .tuple #[]

set_option maxRecDepth 4000 in
theorem want_any (p g cap : Nat) (ts : List Tok) (hE : Ends ts) (i0 : Nat) (d : Int) (full0 : Bool) (b c : Nat) (ws : List (List UInt8)) (w : World) (h : PP w p g cap ts i0 d full0) (hb : b ≠ p) (hbl : b < w.heap.size)
    (hw : ∀ j (hj : j < ws.length), w.cell? ⟨b, j, none⟩ = some (.string ⟨(ws[j]).toArray⟩)) (hn : ∀ t ∈ ws, t ≠ []) (hl : ws.length ≤ 2) :
    Calls Tryz.prog 41 #[.pointer (some ⟨p, 0, none⟩), .slice (some ⟨b, 0, none⟩) ws.length c] w (PPost p g cap ts d unitIs (wantL ws (PSof ts i0 full0)) w) := by
  obtain ⟨R, hR⟩ : ∃ R, wantL ws (PSof ts i0 full0) = R := ⟨_, rfl⟩
  rw [hR]
  have HR : Hid (wantL ws (PSof ts i0 full0) = R) := hR
  have HW : Hid (∀ j (hj : j < ws.length), w.cell? ⟨b, j, none⟩ = some (.string ⟨(ws[j]).toArray⟩)) := hw
  have HN : Hid (∀ t ∈ ws, t ≠ []) := hn
  have H : Hid (PP w p g cap ts i0 d full0) := h
  have HBL : Hid (b ≠ p ∧ b < w.heap.size) := ⟨hb, hbl⟩
  clear hR hw hn h hb hbl
  go_enter Tryz.func41, Tryz.ntmps41
  go_wp2
  go_loopw [8] (fun i wr => ∃ (k ix : Nat) (full : Bool), i = .int .i64 k ∧ k ≤ ws.length ∧ Hid (PP wr p g cap ts ix d full) ∧ Hid (Sole p w wr) ∧ Hid (wantL (ws.drop k) (PSof ts ix full) = R)) (fun i _ => ws.length - (intOf i).toNat)
  case atStart => exact ⟨0, i0, full0, rfl, Nat.zero_le _, H, Sole.refl p w, HR⟩
  case round =>
    obtain ⟨k, ix, full, rfl, hk, HPP, HS, HK⟩ := hrel
    by_cases hlt : k < ws.length
    · have hk' : (k : Int) < ws.length := by omega
      obtain ⟨t, ht⟩ : ∃ t, ws[k] = t := ⟨_, rfl⟩
      have hc : wr.cell? ⟨b, k, none⟩ = some (.string ⟨t.toArray⟩) := by rw [(cells_same (HS.out.block b HBL.out.2 HBL.out.1) k).1, HW.out k hlt, ht]
      have HT : Hid (t ≠ []) := by show t ≠ []; rw [← ht]; exact HN.out _ (List.getElem_mem hlt)
      have HD : Hid (ws.drop k = t :: ws.drop (k + 1)) := by show _ = _; rw [List.drop_eq_getElem_cons hlt, ht]
      have HLT : Hid (k < ws.length) := hlt
      have HSE : Hid (∀ w1, Below wr.heap.size wr w1 → Calls Tryz.prog 75 #[.pointer (some ⟨p, 0, none⟩), .string ⟨t.toArray⟩] w1 fun e w' => e = .returned (.bool ((PSof ts ix full).sees t)) ∧ Below w1.heap.size w1 w') := fun w1 hB => by
        have hx := sees_any p g cap ts ix d full ⟨t.toArray⟩ w1 (HPP.out.below hB)
        rw [ByteArray.toList_mk] at hx
        exact hx
      clear ht
      cases hse : (PSof ts ix full).sees t
      · rw [hse] at HSE
        have HRN : Hid (R = .no 40 (ts[ix]'HPP.out.il).at_) := by
          show _ = _
          rw [← HK.out, HD.out]
          show Ans.bind (PS.want _ t) _ = _
          unfold PS.want PS.bad
          rw [hse, PSof_hd ts ix full HPP.out.il]
          rfl
        have HWR : Hid (∀ w1, Below wr.heap.size wr w1 → Calls Tryz.prog 74 #[.pointer (some ⟨p, 0, none⟩), .int .i64 40] w1 fun e w' => e = .returned (.agg #[.int .i64 40, .int .i64 ((ts[ix]'HPP.out.il).at_ : Nat)]) ∧ Below w1.heap.size w1 w') := fun w1 hB => wrong_any p g cap ts ix d 40 full w1 (HPP.out.below hB)
        clear hse
        go_wp2_with fail
        refine (HSE.out _ (Below.refl _ _)).mono ?_
        rintro e w1 ⟨rfl, hB⟩
        have HB1 : Hid (Below wr.heap.size wr w1) := hB
        clear hB
        go_wp2_with fail
        refine (HWR.out _ HB1.out).mono ?_
        rintro e w2 ⟨rfl, hB⟩
        have HB2 : Hid (Below wr.heap.size wr w2) := HB1.out.trans (hB.mono HB1.out.size)
        clear hB
        go_wp2
        refine ⟨rfl, ?_⟩
        rw [HRN.out]
        exact ⟨rfl, HS.out.trans (Sole.of_below HB2.out)⟩
      · rw [hse] at HSE
        have HRN : Hid (R = (PSof ts ix full).take.bind fun _ s => wantL (ws.drop (k + 1)) s) := by
          show _ = _
          rw [← HK.out, HD.out]
          show Ans.bind (PS.want _ t) _ = _
          unfold PS.want
          rw [hse]
          show Ans.bind (Ans.bind (PS.take _) _) _ = _
          cases (PSof ts ix full).take <;> rfl
        have hix : ix + 1 < ts.length := by
          refine hE.text HPP.out.il ?_
          unfold PS.sees at hse
          rw [PSof_hd ts ix full HPP.out.il] at hse
          rw [show (ts[ix]'HPP.out.il).text = t by simpa using hse]
          exact HT.out
        have HTK : Hid (∀ w1, Below wr.heap.size wr w1 → Calls Tryz.prog 69 #[.pointer (some ⟨p, 0, none⟩)] w1 (PPost p g cap ts d tokIs (PSof ts ix full).take w1)) := fun w1 hB => take_any p g cap ts ix d full w1 (HPP.out.below hB) hix
        clear hse hix
        generalize (PSof ts ix full).take = r at HRN HTK
        go_wp2_with fail
        refine (HSE.out _ (Below.refl _ _)).mono ?_
        rintro e w1 ⟨rfl, hB⟩
        have HB1 : Hid (Below wr.heap.size wr w1) := hB
        clear hB
        go_wp2_with fail
        refine (HTK.out _ HB1.out).mono ?_
        cases r with
        | no why at_ =>
          rintro e w2 ⟨rfl, hS⟩
          have HS2 : Hid (Sole p w w2) := (HS.out.trans (Sole.of_below HB1.out)).trans hS
          clear hS
          go_wp2
          refine ⟨rfl, ?_⟩
          rw [HRN.out]
          exact ⟨rfl, HS2.out⟩
        | ok tk st =>
          rintro e w2 ⟨v, i, full, rfl, rfl, rfl, hP, hS⟩
          have HP2 : Hid (PP w2 p g cap ts i d full) := hP
          have HS2 : Hid (Sole p w w2) := (HS.out.trans (Sole.of_below HB1.out)).trans hS
          clear hS hP
          unfold tokV
          go_wp2
          go_roundw
          case rel => exact ⟨k + 1, i, full, by go_num, HLT.out, HP2, HS2, HRN.out.symm⟩
          case measure => simp [intOf]; omega
    · have hke : k = ws.length := by omega
      subst hke
      have hk' : ¬ (ws.length : Int) < ws.length := by omega
      have HRN : Hid (R = .ok () (PSof ts ix full)) := by
        show _ = _
        rw [← HK.out, List.drop_length]
        rfl
      go_wp2
      first | go_end0 | refine bodyPost_ret (results_none rfl _ _ _) rfl ?_
      rw [HRN.out]
      exact ⟨_, ix, full, rfl, rfl, rfl, HPP.out, HS.out⟩
end Go.Proofs.YteokdknaadckbaaGreatDoor
namespace Go.Proofs.YteokdknaadckbaaGreatDoor
open Go.RowKit

set_option maxRecDepth 4000 in
theorem number_core (p g cap : Nat) (ts : List Tok) (d : Int) (w : World) (hp : p < w.heap.size) (hg : g < w.heap.size) (r : Ans Tok)
    (HT : Hid (∀ w1, Below w.heap.size w w1 → Calls Tryz.prog 139 #[.pointer (some ⟨p, 0, none⟩), .int .i64 3] w1 (PPost p g cap ts d tokIs r w1))) :
    Calls Tryz.prog 110 #[.pointer (some ⟨p, 0, none⟩)] w (PPost p g cap ts d (treeIs w.heap.size) (r.bind fun t s => .ok (.node 28 [] t.num t.at_ []) s) w) := by
  have HP : Hid (p < w.heap.size ∧ g < w.heap.size) := ⟨hp, hg⟩
  clear hp hg
  go_enter Tryz.func110, Tryz.ntmps110
  go_wp2_with fail
  have HB : Hid (Below w.heap.size w (w.alloc (.cells #[.int .i64 0, .string ⟨#[]⟩, .int .i64 0, .int .i64 0, .slice none 0 0] 29))) := (Below.refl _ _).alloc (Nat.le_refl _) _
  refine (HT.out _ HB.out).mono ?_
  cases r with
  | no why at_ =>
    rintro e w2 ⟨rfl, hS⟩
    have HS : Hid (Sole p w w2) := (Sole.of_below HB.out).trans hS
    clear hS
    go_wp2
    exact ⟨rfl, rfl, HS.out⟩
  | ok t st =>
    rintro e w2 ⟨v, i, full, rfl, rfl, rfl, hP, hS⟩
    have hlt : w.heap.size < w2.heap.size := by have := hS.size; simp at this; omega
    obtain ⟨w3, hw3⟩ : ∃ w3, w2.alloc (.cells #[.int .i64 t.kind, .string ⟨t.text.toArray⟩, .int .i64 t.num, .int .i64 t.at_] 41) = w3 := ⟨_, rfl⟩
    have hB3 : Below w2.heap.size w2 w3 := by rw [← hw3]; exact (Below.refl _ _).alloc (Nat.le_refl _) _
    have HPP : Hid (PP w3 p g cap ts i d full) := hP.below hB3
    have HS : Hid (Sole p w w3) := ((Sole.of_below HB.out).trans hS).trans (Sole.of_below hB3)
    obtain ⟨z0, z1, z2, z3, z4, y0, y1, y2, y3, y4⟩ := ((Tre.made w 29).block (hS.block w.heap.size (by simp) (Nat.ne_of_gt HP.out.1))).block (hB3.block w.heap.size hlt)
    have l2 : w3.cell? ⟨w2.heap.size, 2, none⟩ = some (.int .i64 t.num) := by rw [← hw3]; simp
    have l3 : w3.cell? ⟨w2.heap.size, 3, none⟩ = some (.int .i64 t.at_) := by rw [← hw3]; simp
    clear hP hS hB3 hlt
    unfold tokV
    have qb := bld023 28 t.num t.at_
    go_wp2
    have q := res5 w3 w.heap.size (.int .i64 28) (.string ⟨#[]⟩) (.int .i64 t.num) (.int .i64 t.at_) (.slice none 0 0) z0 z1 z2 z3 z4
    have hBz := below_set5 w3 w.heap.size w.heap.size (.int .i64 28) (.string ⟨#[]⟩) (.int .i64 t.num) (.int .i64 t.at_) (.slice none 0 0) (Nat.le_refl _)
    generalize ((((w3.setCell ⟨w.heap.size, 0, none⟩ (.int .i64 28)).setCell ⟨w.heap.size, 1, none⟩ (.string ⟨#[]⟩)).setCell ⟨w.heap.size, 2, none⟩ (.int .i64 t.num)).setCell ⟨w.heap.size, 3, none⟩ (.int .i64 t.at_)).setCell ⟨w.heap.size, 4, none⟩ (.slice none 0 0) = wz at q hBz ⊢
    obtain ⟨q0, q1, q2, q3, q4⟩ := q
    exact bodyPost_ret (v := .agg #[.int .i64 28, .string ⟨#[]⟩, .int .i64 t.num, .int .i64 t.at_, .slice none 0 0]) (by simp [results, Tryz.results110, go_sem, q0, q1, q2, q3, q4]) rfl
      ⟨_, i, full, rfl, treeAt_node.2 ⟨_, rfl, listAt_nil⟩, rfl, HPP.out.of_blocks (hBz.block p HP.out.1) (hBz.block g HP.out.2), HS.out.below_after hBz⟩
theorem number_any (p g cap : Nat) (ts : List Tok) (hE : Ends ts) (i : Nat) (d : Int) (full : Bool) (w : World) (h : PP w p g cap ts i d full) :
    Calls Tryz.prog 110 #[.pointer (some ⟨p, 0, none⟩)] w (PPost p g cap ts d (treeIs w.heap.size) (numberP (PSof ts i full)) w) :=
  number_core p g cap ts d w h.plt h.glt _ (fun w1 hB => ofKind_any p g cap ts hE i d 3 (by decide) full w1 (h.below hB))
theorem alone_any (p g cap : Nat) (ts : List Tok) (i : Nat) (d k : Int) (full : Bool) (w : World) (h : PP w p g cap ts i d full) (hi : i + 1 < ts.length) :
    Calls Tryz.prog 112 #[.pointer (some ⟨p, 0, none⟩), .int .i64 k] w (PPost p g cap ts d (treeIs w.heap.size) (aloneP k (PSof ts i full)) w) :=
  alone_core p g cap ts d k w h.plt h.glt _ (fun w1 hB => take_any p g cap ts i d full w1 (h.below hB) hi)
end Go.Proofs.YteokdknaadckbaaGreatDoor
namespace Go.Proofs.YteokdknaadckbaaGreatDoor
open Go.RowKit

set_option maxRecDepth 4000 in
theorem reference_core (p g cap : Nat) (ts : List Tok) (d : Int) (w : World) (hp : p < w.heap.size) (hg : g < w.heap.size) (r : Ans Tok)
    (HT : Hid (∀ w1, Below w.heap.size w w1 → Calls Tryz.prog 108 #[.pointer (some ⟨p, 0, none⟩)] w1 (PPost p g cap ts d tokIs r w1))) :
    Calls Tryz.prog 162 #[.pointer (some ⟨p, 0, none⟩)] w (PPost p g cap ts d (treeIs w.heap.size) (r.bind fun t s => .ok (named 27 t []) s) w) := by
  have HP : Hid (p < w.heap.size ∧ g < w.heap.size) := ⟨hp, hg⟩
  clear hp hg
  go_enter Tryz.func162, Tryz.ntmps162
  go_wp2_with fail
  have HB : Hid (Below w.heap.size w (w.alloc (.cells #[.int .i64 0, .string ⟨#[]⟩, .int .i64 0, .int .i64 0, .slice none 0 0] 29))) := (Below.refl _ _).alloc (Nat.le_refl _) _
  refine (HT.out _ HB.out).mono ?_
  cases r with
  | no why at_ =>
    rintro e w2 ⟨rfl, hS⟩
    have HS : Hid (Sole p w w2) := (Sole.of_below HB.out).trans hS
    clear hS
    go_wp2
    exact ⟨rfl, rfl, HS.out⟩
  | ok t st =>
    rintro e w2 ⟨v, i, full, rfl, rfl, rfl, hP, hS⟩
    have hlt : w.heap.size < w2.heap.size := by have := hS.size; simp at this; omega
    have HNM : Hid (Calls Tryz.prog 109 #[.int .i64 27, tokV t, .slice none 0 0] w2 fun e w' => e = .returned (kidV 27 t.text 0 t.at_ (.slice none 0 0)) ∧ Below w2.heap.size w2 w') := named_any 27 t none 0 0 w2
    have HPQ : Hid (PP w2 p g cap ts i d full ∧ w.heap.size < w2.heap.size) := ⟨hP, hlt⟩
    have HS : Hid (Sole p (w.alloc (.cells #[.int .i64 0, .string ⟨#[]⟩, .int .i64 0, .int .i64 0, .slice none 0 0] 29)) w2) := hS
    clear hP hS hlt
    unfold tokV at HNM ⊢
    go_wp2_with fail
    refine HNM.out.mono ?_
    rintro e w3 ⟨rfl, hB3⟩
    have HPP : Hid (PP w3 p g cap ts i d full) := HPQ.out.1.below hB3
    have HS3 : Hid (Sole p w w3) := ((Sole.of_below HB.out).trans HS.out).trans (Sole.of_below hB3)
    obtain ⟨z0, z1, z2, z3, z4, y0, y1, y2, y3, y4⟩ := ((Tre.made w 29).block (HS.out.block w.heap.size (by simp) (Nat.ne_of_gt HP.out.1))).block (hB3.block w.heap.size HPQ.out.2)
    clear hB3
    unfold kidV
    go_wp2
    have q := res5 w3 w.heap.size (.int .i64 27) (.string ⟨t.text.toArray⟩) (.int .i64 0) (.int .i64 t.at_) (.slice none 0 0) z0 z1 z2 z3 z4
    have hBz := below_set5 w3 w.heap.size w.heap.size (.int .i64 27) (.string ⟨t.text.toArray⟩) (.int .i64 0) (.int .i64 t.at_) (.slice none 0 0) (Nat.le_refl _)
    generalize ((((w3.setCell ⟨w.heap.size, 0, none⟩ (.int .i64 27)).setCell ⟨w.heap.size, 1, none⟩ (.string ⟨t.text.toArray⟩)).setCell ⟨w.heap.size, 2, none⟩ (.int .i64 0)).setCell ⟨w.heap.size, 3, none⟩ (.int .i64 t.at_)).setCell ⟨w.heap.size, 4, none⟩ (.slice none 0 0) = wz at q hBz ⊢
    obtain ⟨q0, q1, q2, q3, q4⟩ := q
    exact bodyPost_ret (v := .agg #[.int .i64 27, .string ⟨t.text.toArray⟩, .int .i64 0, .int .i64 t.at_, .slice none 0 0]) (by simp [results, Tryz.results162, go_sem, q0, q1, q2, q3, q4]) rfl
      ⟨_, i, full, rfl, treeAt_node.2 ⟨_, rfl, listAt_nil⟩, rfl, HPP.out.of_blocks (hBz.block p HP.out.1) (hBz.block g HP.out.2), HS3.out.below_after hBz⟩
theorem reference_any (p g cap : Nat) (ts : List Tok) (hE : Ends ts) (i : Nat) (d : Int) (full : Bool) (w : World) (h : PP w p g cap ts i d full) :
    Calls Tryz.prog 162 #[.pointer (some ⟨p, 0, none⟩)] w (PPost p g cap ts d (treeIs w.heap.size) (refP (PSof ts i full)) w) :=
  reference_core p g cap ts d w h.plt h.glt _ (fun w1 hB => name_any p g cap ts hE i d full w1 (h.below hB))
end Go.Proofs.YteokdknaadckbaaGreatDoor
namespace Go.Proofs.YteokdknaadckbaaGreatDoor
open Go.RowKit

theorem but_set5 (u : World) (r : Nat) (v0 v1 v2 v3 v4 : Value) (b : Nat) (hb : b ≠ r) : (((((u.setCell ⟨r, 0, none⟩ v0).setCell ⟨r, 1, none⟩ v1).setCell ⟨r, 2, none⟩ v2).setCell ⟨r, 3, none⟩ v3).setCell ⟨r, 4, none⟩ v4).heap[b]? = u.heap[b]? :=
  (Below.heap_setCell _ _ _ _ hb).trans ((Below.heap_setCell _ _ _ _ hb).trans ((Below.heap_setCell _ _ _ _ hb).trans ((Below.heap_setCell _ _ _ _ hb).trans (Below.heap_setCell _ _ _ _ hb))))

set_option maxRecDepth 4000 in
theorem value_ref (p g cap : Nat) (ts : List Tok) (d k m : Int) (s : ByteArray) (a : Nat) (w : World) (hp : p < w.heap.size) (hg : g < w.heap.size) (r : Ans Tree) (hk : (k == 1) = true)
    (H0 : Hid (∀ w1, Below w.heap.size w w1 → Calls Tryz.prog 38 #[.pointer (some ⟨p, 0, none⟩)] w1 fun e w' => e = .returned (.agg #[.int .i64 k, .string s, .int .i64 m, .int .i64 a]) ∧ Below w1.heap.size w1 w'))
    (HT : Hid (∀ w1, Below w.heap.size w w1 → Calls Tryz.prog 162 #[.pointer (some ⟨p, 0, none⟩)] w1 (PPost p g cap ts d (treeIs w1.heap.size) r w1))) :
    Calls Tryz.prog 140 #[.pointer (some ⟨p, 0, none⟩)] w (PPost p g cap ts d (treeIs w.heap.size) r w) := by
  have HP : Hid (p < w.heap.size ∧ g < w.heap.size) := ⟨hp, hg⟩
  clear hp hg
  have q0 := fld0 k m a s
  go_enter Tryz.func140, Tryz.ntmps140
  go_wp2_with fail
  refine (H0.out _ ((Below.refl _ _).alloc (Nat.le_refl _) _)).mono ?_
  rintro e w1 ⟨rfl, hB⟩
  have HB1 : Hid (Below w.heap.size w w1) := ((Below.refl _ _).alloc (Nat.le_refl _) _).trans (hB.mono (by simp))
  have HZ : Hid (Tre w1 w.heap.size ∧ w.heap.size < w1.heap.size) := ⟨(Tre.made w 29).block (hB.block _ (by simp)), by have := hB.size; simp at this; omega⟩
  clear hB
  go_wp2_with fail
  refine (HT.out _ HB1.out).mono ?_
  cases r with
  | no why at_ =>
    rintro e w9 ⟨rfl, hS⟩
    have HS9 : Hid (Sole p w w9) := (Sole.of_below HB1.out).trans hS
    clear hS
    go_wp2
    exact ⟨rfl, rfl, HS9.out⟩
  | ok t st =>
    rintro e w9 ⟨v, i, full, rfl, hT, rfl, hP, hS⟩
    obtain ⟨k9, n9, m9, a9, ks9⟩ := t
    obtain ⟨sl, rfl, hL⟩ := treeAt_node.1 hT
    obtain ⟨o9, len9, cap9, rfl⟩ := hL.shape
    have HT9 : Hid (treeIs w1.heap.size (.node k9 n9 m9 a9 ks9) w9 (kidV k9 n9 m9 a9 (.slice o9 len9 cap9))) := hT
    have HP9 : Hid (PP w9 p g cap ts i d full) := hP
    have HS9 : Hid (Sole p w w9) := (Sole.of_below HB1.out).trans hS
    obtain ⟨z0, z1, z2, z3, z4, y0, y1, y2, y3, y4⟩ := HZ.out.1.block (hS.block w.heap.size HZ.out.2 (Nat.ne_of_gt HP.out.1))
    clear hP hS hT hL
    unfold kidV at HT9 ⊢
    go_wp2
    have q := res5 w9 w.heap.size (.int .i64 k9) (.string ⟨n9.toArray⟩) (.int .i64 m9) (.int .i64 a9) (.slice o9 len9 cap9) z0 z1 z2 z3 z4
    have hBz := below_set5 w9 w.heap.size w.heap.size (.int .i64 k9) (.string ⟨n9.toArray⟩) (.int .i64 m9) (.int .i64 a9) (.slice o9 len9 cap9) (Nat.le_refl _)
    have hbt := but_set5 w9 w.heap.size (.int .i64 k9) (.string ⟨n9.toArray⟩) (.int .i64 m9) (.int .i64 a9) (.slice o9 len9 cap9)
    generalize ((((w9.setCell ⟨w.heap.size, 0, none⟩ (.int .i64 k9)).setCell ⟨w.heap.size, 1, none⟩ (.string ⟨n9.toArray⟩)).setCell ⟨w.heap.size, 2, none⟩ (.int .i64 m9)).setCell ⟨w.heap.size, 3, none⟩ (.int .i64 a9)).setCell ⟨w.heap.size, 4, none⟩ (.slice o9 len9 cap9) = wz at q hBz hbt ⊢
    obtain ⟨q0, q1, q2, q3, q4⟩ := q
    exact bodyPost_ret (v := .agg #[.int .i64 k9, .string ⟨n9.toArray⟩, .int .i64 m9, .int .i64 a9, .slice o9 len9 cap9]) (by simp [results, Tryz.results140, go_sem, q0, q1, q2, q3, q4]) rfl
      ⟨_, i, full, rfl, HT9.out.but (Nat.le_of_lt HZ.out.2) HZ.out.2 (fun b _ hb => hbt b hb), rfl, HP9.out.of_blocks (hBz.block p HP.out.1) (hBz.block g HP.out.2), HS9.out.below_after hBz⟩

set_option maxRecDepth 4000 in
theorem value_num (p g cap : Nat) (ts : List Tok) (d k m : Int) (s : ByteArray) (a : Nat) (w : World) (hp : p < w.heap.size) (hg : g < w.heap.size) (r : Ans Tree) (hk : (k == 1) = false)
    (H0 : Hid (∀ w1, Below w.heap.size w w1 → Calls Tryz.prog 38 #[.pointer (some ⟨p, 0, none⟩)] w1 fun e w' => e = .returned (.agg #[.int .i64 k, .string s, .int .i64 m, .int .i64 a]) ∧ Below w1.heap.size w1 w'))
    (HT : Hid (∀ w1, Below w.heap.size w w1 → Calls Tryz.prog 110 #[.pointer (some ⟨p, 0, none⟩)] w1 (PPost p g cap ts d (treeIs w1.heap.size) r w1))) :
    Calls Tryz.prog 140 #[.pointer (some ⟨p, 0, none⟩)] w (PPost p g cap ts d (treeIs w.heap.size) r w) := by
  have HP : Hid (p < w.heap.size ∧ g < w.heap.size) := ⟨hp, hg⟩
  clear hp hg
  have q0 := fld0 k m a s
  go_enter Tryz.func140, Tryz.ntmps140
  go_wp2_with fail
  refine (H0.out _ ((Below.refl _ _).alloc (Nat.le_refl _) _)).mono ?_
  rintro e w1 ⟨rfl, hB⟩
  have HB1 : Hid (Below w.heap.size w w1) := ((Below.refl _ _).alloc (Nat.le_refl _) _).trans (hB.mono (by simp))
  have HZ : Hid (Tre w1 w.heap.size ∧ w.heap.size < w1.heap.size) := ⟨(Tre.made w 29).block (hB.block _ (by simp)), by have := hB.size; simp at this; omega⟩
  clear hB
  go_wp2_with fail
  refine (HT.out _ HB1.out).mono ?_
  cases r with
  | no why at_ =>
    rintro e w9 ⟨rfl, hS⟩
    have HS9 : Hid (Sole p w w9) := (Sole.of_below HB1.out).trans hS
    clear hS
    go_wp2
    exact ⟨rfl, rfl, HS9.out⟩
  | ok t st =>
    rintro e w9 ⟨v, i, full, rfl, hT, rfl, hP, hS⟩
    obtain ⟨k9, n9, m9, a9, ks9⟩ := t
    obtain ⟨sl, rfl, hL⟩ := treeAt_node.1 hT
    obtain ⟨o9, len9, cap9, rfl⟩ := hL.shape
    have HT9 : Hid (treeIs w1.heap.size (.node k9 n9 m9 a9 ks9) w9 (kidV k9 n9 m9 a9 (.slice o9 len9 cap9))) := hT
    have HP9 : Hid (PP w9 p g cap ts i d full) := hP
    have HS9 : Hid (Sole p w w9) := (Sole.of_below HB1.out).trans hS
    obtain ⟨z0, z1, z2, z3, z4, y0, y1, y2, y3, y4⟩ := HZ.out.1.block (hS.block w.heap.size HZ.out.2 (Nat.ne_of_gt HP.out.1))
    clear hP hS hT hL
    unfold kidV at HT9 ⊢
    go_wp2
    have q := res5 w9 w.heap.size (.int .i64 k9) (.string ⟨n9.toArray⟩) (.int .i64 m9) (.int .i64 a9) (.slice o9 len9 cap9) z0 z1 z2 z3 z4
    have hBz := below_set5 w9 w.heap.size w.heap.size (.int .i64 k9) (.string ⟨n9.toArray⟩) (.int .i64 m9) (.int .i64 a9) (.slice o9 len9 cap9) (Nat.le_refl _)
    have hbt := but_set5 w9 w.heap.size (.int .i64 k9) (.string ⟨n9.toArray⟩) (.int .i64 m9) (.int .i64 a9) (.slice o9 len9 cap9)
    generalize ((((w9.setCell ⟨w.heap.size, 0, none⟩ (.int .i64 k9)).setCell ⟨w.heap.size, 1, none⟩ (.string ⟨n9.toArray⟩)).setCell ⟨w.heap.size, 2, none⟩ (.int .i64 m9)).setCell ⟨w.heap.size, 3, none⟩ (.int .i64 a9)).setCell ⟨w.heap.size, 4, none⟩ (.slice o9 len9 cap9) = wz at q hBz hbt ⊢
    obtain ⟨q0, q1, q2, q3, q4⟩ := q
    exact bodyPost_ret (v := .agg #[.int .i64 k9, .string ⟨n9.toArray⟩, .int .i64 m9, .int .i64 a9, .slice o9 len9 cap9]) (by simp [results, Tryz.results140, go_sem, q0, q1, q2, q3, q4]) rfl
      ⟨_, i, full, rfl, HT9.out.but (Nat.le_of_lt HZ.out.2) HZ.out.2 (fun b _ hb => hbt b hb), rfl, HP9.out.of_blocks (hBz.block p HP.out.1) (hBz.block g HP.out.2), HS9.out.below_after hBz⟩

set_option maxRecDepth 4000 in
theorem natural_yes (p g cap : Nat) (ts : List Tok) (d k m : Int) (s : ByteArray) (a : Nat) (w : World) (hp : p < w.heap.size) (hg : g < w.heap.size) (r : Ans Tree) (hk : ¬ m < 0)
    (H0 : Hid (∀ w1, Below w.heap.size w w1 → Calls Tryz.prog 38 #[.pointer (some ⟨p, 0, none⟩)] w1 fun e w' => e = .returned (.agg #[.int .i64 k, .string s, .int .i64 m, .int .i64 a]) ∧ Below w1.heap.size w1 w'))
    (HT : Hid (∀ w1, Below w.heap.size w w1 → Calls Tryz.prog 110 #[.pointer (some ⟨p, 0, none⟩)] w1 (PPost p g cap ts d (treeIs w1.heap.size) r w1))) :
    Calls Tryz.prog 118 #[.pointer (some ⟨p, 0, none⟩)] w (PPost p g cap ts d (treeIs w.heap.size) r w) := by
  have HP : Hid (p < w.heap.size ∧ g < w.heap.size) := ⟨hp, hg⟩
  clear hp hg
  have q0 := fld2 k m a s
  go_enter Tryz.func118, Tryz.ntmps118
  go_wp2_with fail
  refine (H0.out _ ((Below.refl _ _).alloc (Nat.le_refl _) _)).mono ?_
  rintro e w1 ⟨rfl, hB⟩
  have HB1 : Hid (Below w.heap.size w w1) := ((Below.refl _ _).alloc (Nat.le_refl _) _).trans (hB.mono (by simp))
  have HZ : Hid (Tre w1 w.heap.size ∧ w.heap.size < w1.heap.size) := ⟨(Tre.made w 29).block (hB.block _ (by simp)), by have := hB.size; simp at this; omega⟩
  clear hB
  go_wp2_with fail
  refine (HT.out _ HB1.out).mono ?_
  cases r with
  | no why at_ =>
    rintro e w9 ⟨rfl, hS⟩
    have HS9 : Hid (Sole p w w9) := (Sole.of_below HB1.out).trans hS
    clear hS
    go_wp2
    exact ⟨rfl, rfl, HS9.out⟩
  | ok t st =>
    rintro e w9 ⟨v, i, full, rfl, hT, rfl, hP, hS⟩
    obtain ⟨k9, n9, m9, a9, ks9⟩ := t
    obtain ⟨sl, rfl, hL⟩ := treeAt_node.1 hT
    obtain ⟨o9, len9, cap9, rfl⟩ := hL.shape
    have HT9 : Hid (treeIs w1.heap.size (.node k9 n9 m9 a9 ks9) w9 (kidV k9 n9 m9 a9 (.slice o9 len9 cap9))) := hT
    have HP9 : Hid (PP w9 p g cap ts i d full) := hP
    have HS9 : Hid (Sole p w w9) := (Sole.of_below HB1.out).trans hS
    obtain ⟨z0, z1, z2, z3, z4, y0, y1, y2, y3, y4⟩ := HZ.out.1.block (hS.block w.heap.size HZ.out.2 (Nat.ne_of_gt HP.out.1))
    clear hP hS hT hL
    unfold kidV at HT9 ⊢
    go_wp2
    have q := res5 w9 w.heap.size (.int .i64 k9) (.string ⟨n9.toArray⟩) (.int .i64 m9) (.int .i64 a9) (.slice o9 len9 cap9) z0 z1 z2 z3 z4
    have hBz := below_set5 w9 w.heap.size w.heap.size (.int .i64 k9) (.string ⟨n9.toArray⟩) (.int .i64 m9) (.int .i64 a9) (.slice o9 len9 cap9) (Nat.le_refl _)
    have hbt := but_set5 w9 w.heap.size (.int .i64 k9) (.string ⟨n9.toArray⟩) (.int .i64 m9) (.int .i64 a9) (.slice o9 len9 cap9)
    generalize ((((w9.setCell ⟨w.heap.size, 0, none⟩ (.int .i64 k9)).setCell ⟨w.heap.size, 1, none⟩ (.string ⟨n9.toArray⟩)).setCell ⟨w.heap.size, 2, none⟩ (.int .i64 m9)).setCell ⟨w.heap.size, 3, none⟩ (.int .i64 a9)).setCell ⟨w.heap.size, 4, none⟩ (.slice o9 len9 cap9) = wz at q hBz hbt ⊢
    obtain ⟨q0, q1, q2, q3, q4⟩ := q
    exact bodyPost_ret (v := .agg #[.int .i64 k9, .string ⟨n9.toArray⟩, .int .i64 m9, .int .i64 a9, .slice o9 len9 cap9]) (by simp [results, Tryz.results118, go_sem, q0, q1, q2, q3, q4]) rfl
      ⟨_, i, full, rfl, HT9.out.but (Nat.le_of_lt HZ.out.2) HZ.out.2 (fun b _ hb => hbt b hb), rfl, HP9.out.of_blocks (hBz.block p HP.out.1) (hBz.block g HP.out.2), HS9.out.below_after hBz⟩

set_option maxRecDepth 4000 in
theorem natural_no (p : Nat) (k m : Int) (s : ByteArray) (a : Nat) (w : World) (hk : m < 0)
    (H0 : Hid (∀ w1, Below w.heap.size w w1 → Calls Tryz.prog 38 #[.pointer (some ⟨p, 0, none⟩)] w1 fun e w' => e = .returned (.agg #[.int .i64 k, .string s, .int .i64 m, .int .i64 a]) ∧ Below w1.heap.size w1 w'))
    (HW : Hid (∀ w1, Below w.heap.size w w1 → Calls Tryz.prog 74 #[.pointer (some ⟨p, 0, none⟩), .int .i64 40] w1 fun e w' => e = .returned (.agg #[.int .i64 40, .int .i64 a]) ∧ Below w1.heap.size w1 w')) :
    Calls Tryz.prog 118 #[.pointer (some ⟨p, 0, none⟩)] w fun e w' => e = .panicked [{ v := .iface 50 (.agg #[.int .i64 40, .int .i64 a]), recovered := false }] ∧ Below w.heap.size w w' := by
  have q0 := fld2 k m a s
  go_enter Tryz.func118, Tryz.ntmps118
  go_wp2_with fail
  refine (H0.out _ ((Below.refl _ _).alloc (Nat.le_refl _) _)).mono ?_
  rintro e w1 ⟨rfl, hB⟩
  have HB : Hid (Below w.heap.size w w1) := ((Below.refl _ _).alloc (Nat.le_refl _) _).trans (hB.mono (by simp))
  clear hB
  go_wp2_with fail
  refine (HW.out _ HB.out).mono ?_
  rintro e w2 ⟨rfl, hB⟩
  have HB2 : Hid (Below w.heap.size w w2) := HB.out.trans (hB.mono HB.out.size)
  clear hB
  go_wp2
  exact ⟨rfl, rfl, HB2.out⟩
theorem value_any (p g cap : Nat) (ts : List Tok) (hE : Ends ts) (i : Nat) (d : Int) (full : Bool) (w : World) (h : PP w p g cap ts i d full) :
    Calls Tryz.prog 140 #[.pointer (some ⟨p, 0, none⟩)] w (PPost p g cap ts d (treeIs w.heap.size) (valueP (PSof ts i full)) w) := by
  have hd := PSof_hd ts i full h.il
  unfold valueP
  rw [hd]
  by_cases e : (ts[i]'h.il).kind = 1
  · rw [if_pos e]
    exact value_ref p g cap ts d (ts[i]'h.il).kind (ts[i]'h.il).num ⟨(ts[i]'h.il).text.toArray⟩ (ts[i]'h.il).at_ w h.plt h.glt _ (by simp [e]) (fun w1 hB => token_any p g cap ts i d full w1 (h.below hB)) (fun w1 hB => reference_any p g cap ts hE i d full w1 (h.below hB))
  · rw [if_neg e]
    exact value_num p g cap ts d (ts[i]'h.il).kind (ts[i]'h.il).num ⟨(ts[i]'h.il).text.toArray⟩ (ts[i]'h.il).at_ w h.plt h.glt _ (by simp [e]) (fun w1 hB => token_any p g cap ts i d full w1 (h.below hB)) (fun w1 hB => number_any p g cap ts hE i d full w1 (h.below hB))
theorem natural_any (p g cap : Nat) (ts : List Tok) (hE : Ends ts) (i : Nat) (d : Int) (full : Bool) (w : World) (h : PP w p g cap ts i d full) :
    Calls Tryz.prog 118 #[.pointer (some ⟨p, 0, none⟩)] w (PPost p g cap ts d (treeIs w.heap.size) (naturalP (PSof ts i full)) w) := by
  have hd := PSof_hd ts i full h.il
  unfold naturalP PS.bad
  rw [hd]
  by_cases e : (ts[i]'h.il).num < 0
  · rw [if_pos e]
    refine (natural_no p (ts[i]'h.il).kind (ts[i]'h.il).num ⟨(ts[i]'h.il).text.toArray⟩ (ts[i]'h.il).at_ w e (fun w1 hB => token_any p g cap ts i d full w1 (h.below hB)) (fun w1 hB => wrong_any p g cap ts i d 40 full w1 (h.below hB))).mono ?_
    rintro e' w' ⟨rfl, hB⟩
    exact ⟨rfl, Sole.of_below hB⟩
  · rw [if_neg e]
    exact natural_yes p g cap ts d (ts[i]'h.il).kind (ts[i]'h.il).num ⟨(ts[i]'h.il).text.toArray⟩ (ts[i]'h.il).at_ w h.plt h.glt _ e (fun w1 hB => token_any p g cap ts i d full w1 (h.below hB)) (fun w1 hB => number_any p g cap ts hE i d full w1 (h.below hB))
end Go.Proofs.YteokdknaadckbaaGreatDoor
