/- Lex, plainly: tokens with blanks and comments between are taken apart into just these. -/
import Derived.Test.YthnnmgiihpdblabLf
namespace Go.Proofs.Ythnnmgiihpdblab

/- a text within a source -/
theorem getD_mid {a b c : List UInt8} {k : Nat} (h : k < b.length) : (a ++ (b ++ c)).getD (a.length + k) 0 = b.getD k 0 := by
  rw [getD_app_r (by omega), Nat.add_sub_cancel_left, getD_app h]
theorem getD_mid0 {a b : List UInt8} : (a ++ b).getD a.length 0 = b.getD 0 0 := by
  rw [getD_app_r (Nat.le_refl _), Nat.sub_self]
theorem getD_behind {a b c : List UInt8} : (a ++ (b ++ c)).getD (a.length + b.length) 0 = c.getD 0 0 := by
  rw [getD_app_r (by omega), getD_app_r (by omega)]; congr 1; omega
theorem sub_mid {a b c : List UInt8} : sub (a ++ (b ++ c)) a.length (a.length + b.length) = b := by
  unfold sub; simp

theorem runEnd_mid {a b c : List UInt8} {k : Nat} (hk : k ≤ b.length) (hb : ∀ j, k ≤ j → j < b.length → runB (b.getD j 0) = true) (hc : runB (c.getD 0 0) = false) : runEnd (a ++ (b ++ c)) (a.length + k) = a.length + b.length := by
  rw [runEnd_to (k := a.length + b.length) (by omega) fun j h1 h2 => ?_, runEnd_stop (by rw [getD_behind]; exact hc)]
  obtain ⟨d, rfl⟩ : ∃ d, j = a.length + d := ⟨j - a.length, by omega⟩
  rw [getD_mid (by omega)]; exact hb d (by omega) (by omega)

theorem step_blank {a r : List UInt8} {c : UInt8} (h : blankB c = true) : stepS (a ++ (c :: r)) a.length = .go none (a.length + 1) := by
  unfold stepS
  rw [getD_mid0, if_pos (by exact h)]

theorem step_comment {a m r : List UInt8} (hm : ∀ k, k < m.length → ¬ ((m ++ [42, 47]).getD k 0 = 42 ∧ (m ++ [42, 47]).getD (k + 1) 0 = 47)) :
    stepS (a ++ (([47, 42] ++ (m ++ [42, 47])) ++ r)) a.length = .go none (a.length + (m.length + 4)) := by
  have hb : ([47, 42] ++ (m ++ [42, 47]) : List UInt8).length = m.length + 4 := by simp
  have g : ∀ k, k < m.length + 4 → (a ++ (([47, 42] ++ (m ++ [42, 47])) ++ r)).getD (a.length + k) 0 = ([47, 42] ++ (m ++ [42, 47]) : List UInt8).getD k 0 := fun k hk => getD_mid (by omega)
  have g2 : ∀ k, k < m.length + 2 → (a ++ (([47, 42] ++ (m ++ [42, 47])) ++ r)).getD (a.length + 2 + k) 0 = (m ++ [42, 47]).getD k 0 := fun k hk => by
    rw [Nat.add_assoc, g (2 + k) (by omega), getD_app_r (by simp)]; congr 1; simp
  have e0 : (a ++ (([47, 42] ++ (m ++ [42, 47])) ++ r)).getD a.length 0 = 47 := g 0 (by omega)
  have e1 : (a ++ (([47, 42] ++ (m ++ [42, 47])) ++ r)).getD (a.length + 1) 0 = 42 := g 1 (by omega)
  have e2 : (m ++ [42, 47]).getD m.length 0 = 42 := by rw [getD_mid0]; rfl
  have e3 : (m ++ [42, 47]).getD (m.length + 1) 0 = 47 := by rw [getD_app_r (by omega), Nat.add_sub_cancel_left]; rfl
  generalize a ++ (([47, 42] ++ (m ++ [42, 47])) ++ r) = X at *
  unfold stepS
  rw [e0, e1, if_neg (by decide), if_pos ⟨rfl, rfl⟩]
  have : cend X (a.length + 2) = some (a.length + (m.length + 4)) := by
    refine cend_is (by omega) ?_ ?_ fun k h1 h2 h => ?_
    · rw [show a.length + (m.length + 4) - 2 = a.length + 2 + m.length by omega, g2 _ (by omega)]; exact e2
    · rw [show a.length + (m.length + 4) - 1 = a.length + 2 + (m.length + 1) by omega, g2 _ (by omega)]; exact e3
    · obtain ⟨d, rfl⟩ : ∃ d, k = a.length + 2 + d := ⟨k - (a.length + 2), by omega⟩
      rw [g2 d (by omega), Nat.add_assoc (a.length + 2), g2 (d + 1) (by omega)] at h
      exact hm d (by omega) h
  rw [this]

/- gaps -/
def pickP (c n : Int) : Int := if c < 0 then (-(c + 1)) % n else c % n

def gapOne (c : Int) : List UInt8 :=
  if pickP c 6 = 0 then [9] else if pickP c 6 = 1 then [10] else if pickP c 6 = 2 then [13] else if pickP c 6 = 3 then [47, 42, 42, 47]
  else if pickP c 6 = 4 then [47, 42, 32, 97, 59, 123, 32, 47, 32, 42, 32, 47, 47, 32, 42, 47] else [32]

def gapMore : List Int → List UInt8
  | [] => []
  | c :: r => gapOne c ++ gapMore r
def gapP (l : List Int) : List UInt8 := 32 :: gapMore l

theorem gapMore_snoc (l : List Int) (c : Int) : gapMore (l ++ [c]) = gapMore l ++ gapOne c := by
  induction l with
  | nil => simp [gapMore]
  | cons a r ih => simp [gapMore, ih]

theorem step_gapOne {a r : List UInt8} (c : Int) : stepS (a ++ (gapOne c ++ r)) a.length = .go none (a.length + (gapOne c).length) := by
  unfold gapOne
  split
  · exact step_blank (c := 9) (by decide)
  split
  · exact step_blank (c := 10) (by decide)
  split
  · exact step_blank (c := 13) (by decide)
  split
  · exact step_comment (m := []) (fun k h => by simp at h)
  split
  · refine step_comment (m := [32, 97, 59, 123, 32, 47, 32, 42, 32, 47, 47, 32]) ?_
    intro k hk
    have hk : k < 12 := hk
    have : ∀ k : Fin 12, ¬ (([32, 97, 59, 123, 32, 47, 32, 42, 32, 47, 47, 32] ++ [42, 47] : List UInt8).getD k.val 0 = 42 ∧ ([32, 97, 59, 123, 32, 47, 32, 42, 32, 47, 47, 32] ++ [42, 47] : List UInt8).getD (k.val + 1) 0 = 47) := by decide
    exact this ⟨k, hk⟩
  · exact step_blank (c := 32) (by decide)

theorem gapOne_pos (c : Int) : 0 < (gapOne c).length := by
  unfold gapOne; repeat' split
  all_goals decide

theorem reach_gapMore : ∀ (l : List Int) (a r : List UInt8) (ts : List Tok), Reach (a ++ (gapMore l ++ r)) a.length ts (a.length + (gapMore l).length) ts
  | [], a, r, ts => .refl
  | c :: l, a, r, ts => by
    have h := gapOne_pos c
    have e : a ++ (gapMore (c :: l) ++ r) = a ++ (gapOne c ++ (gapMore l ++ r)) := by simp [gapMore]
    have e2 : a ++ (gapOne c ++ (gapMore l ++ r)) = (a ++ gapOne c) ++ (gapMore l ++ r) := by simp
    have hs := step_gapOne (a := a) (r := gapMore l ++ r) c
    have ih := reach_gapMore l (a ++ gapOne c) r (ts ++ (none : Option Tok).toList)
    rw [← e2, List.length_append] at ih
    rw [e]
    refine .step (by simp; omega) hs ?_
    have e3 : a.length + (gapMore (c :: l)).length = a.length + (gapOne c).length + (gapMore l).length := by simp [gapMore]; omega
    rw [e3]
    simpa using ih

theorem reach_gap (l : List Int) (a r : List UInt8) (ts : List Tok) : Reach (a ++ (gapP l ++ r)) a.length ts (a.length + (gapP l).length) ts := by
  have hs := step_blank (a := a) (r := gapMore l ++ r) (c := 32) (by decide)
  have ih := reach_gapMore l (a ++ [32]) r (ts ++ (none : Option Tok).toList)
  have e : a ++ (gapP l ++ r) = a ++ (32 :: (gapMore l ++ r)) := by simp [gapP]
  have e2 : (a ++ [32]) ++ (gapMore l ++ r) = a ++ (32 :: (gapMore l ++ r)) := by simp
  rw [e2, List.length_append] at ih
  rw [e]
  refine .step (by simp) hs ?_
  have e3 : a.length + (gapP l).length = a.length + [(32 : UInt8)].length + (gapMore l).length := by simp [gapP]; omega
  rw [e3]
  simpa using ih

/- digits -/
def dc (d : Nat) : UInt8 := ([48, 49, 50, 51, 52, 53, 54, 55, 56, 57, 97, 98, 99, 100, 101, 102] : List UInt8).getD d 0

def digF : Nat → Nat → Nat → List UInt8
  | 0, _, _ => []
  | f + 1, base, n => if n < base then [dc n] else digF f base (n / base) ++ [dc (n % base)]
def digitsL (base n : Nat) : List UInt8 := digF (n + 1) base n

theorem digF_fuel {base : Nat} (hb : 2 ≤ base) : ∀ (f g n : Nat), n < f → n < g → digF f base n = digF g base n
  | 0, _, _, h, _ => by omega
  | _, 0, _, _, h => by omega
  | f + 1, g + 1, n, h1, h2 => by
    unfold digF
    split
    · rfl
    · have : n / base < n := Nat.div_lt_self (by omega) hb
      rw [digF_fuel hb f g (n / base) (by omega) (by omega)]

theorem digitsL_small {base n : Nat} (h : n < base) : digitsL base n = [dc n] := by
  unfold digitsL digF; rw [if_pos h]
theorem digitsL_great {base n : Nat} (hb : 2 ≤ base) (h : ¬ n < base) : digitsL base n = digitsL base (n / base) ++ [dc (n % base)] := by
  unfold digitsL
  rw [digF, if_neg h]
  have : n / base < n := Nat.div_lt_self (by omega) hb
  rw [digF_fuel hb n (n / base + 1) (n / base) (by omega) (by omega)]

theorem dc_digV {d : Nat} (h : d < 16) : digV (dc d) = d := by
  have : ∀ d : Fin 16, digV (dc d.val) = d.val := by decide
  exact this ⟨d, h⟩
theorem dc_run {d : Nat} (h : d < 16) : runB (dc d) = true := by
  have : ∀ d : Fin 16, runB (dc d.val) = true := by decide
  exact this ⟨d, h⟩
theorem dc_dig {d : Nat} (h : d < 10) : digB (dc d) = true := by
  have : ∀ d : Fin 10, digB (dc d.val) = true := by decide
  exact this ⟨d, h⟩
theorem dc_pos {d : Nat} (h : d < 16) (h0 : d ≠ 0) : dc d ≠ 48 := by
  have : ∀ d : Fin 16, d.val ≠ 0 → dc d.val ≠ 48 := by decide
  exact this ⟨d, h⟩ h0
theorem dc_not_x {d : Nat} (h : d < 16) : dc d ≠ 120 ∧ dc d ≠ 45 := by
  have : ∀ d : Fin 16, dc d.val ≠ 120 ∧ dc d.val ≠ 45 := by decide
  exact this ⟨d, h⟩

theorem reckP_snoc (base most : Nat) (c : UInt8) : ∀ (l : List UInt8) (n m : Nat), reckP base most n l = some m → digV c < base → m * base + digV c ≤ most → reckP base most n (l ++ [c]) = some (m * base + digV c)
  | [], n, m, h, h1, h2 => by
    simp only [reckP, Option.some.injEq] at h
    subst h
    simp only [List.nil_append, reckP]
    rw [if_neg (by omega), if_neg (by omega)]
  | a :: l, n, m, h, h1, h2 => by
    simp only [reckP] at h
    simp only [List.cons_append, reckP]
    split at h
    · cases h
    split at h
    · cases h
    rename_i h3 h4
    rw [if_neg h3, if_neg h4]
    exact reckP_snoc base most c l _ m h h1 h2

/-- what printed digits are -/
theorem digits_facts {base : Nat} (hb : 2 ≤ base) (hb2 : base ≤ 16) (most : Nat) (n : Nat) : (n ≤ most → reckP base most 0 (digitsL base n) = some n) ∧ (∀ c ∈ digitsL base n, ∃ d, d < base ∧ c = dc d) ∧ (∃ d, d < base ∧ (digitsL base n).getD 0 0 = dc d ∧ (d = 0 → n = 0)) ∧ 0 < (digitsL base n).length := by
  by_cases h : n < base
  · rw [digitsL_small h]
    refine ⟨fun hm => ?_, fun c hc => ?_, ⟨n, h, rfl, id⟩, by simp⟩
    · simp only [reckP, dc_digV (show n < 16 by omega)]
      rw [if_neg (by omega), if_neg (by omega)]; simp
    · exact ⟨n, h, by simpa using hc⟩
  · have hlt : n / base < n := Nat.div_lt_self (by omega) hb
    have hpos : 0 < n / base := Nat.div_pos (by omega) (by omega)
    obtain ⟨i1, i2, i3, i4⟩ := digits_facts hb hb2 most (n / base)
    have hm : n % base < base := Nat.mod_lt _ (by omega)
    have hd := Nat.div_add_mod n base
    rw [digitsL_great hb h]
    refine ⟨fun hle => ?_, fun c hc => ?_, ?_, by simp⟩
    · have := reckP_snoc base most (dc (n % base)) _ 0 _ (i1 (by omega)) (by rw [dc_digV (by omega)]; exact hm) (by rw [dc_digV (by omega), Nat.mul_comm]; omega)
      rw [this, dc_digV (by omega), Nat.mul_comm, hd]
    · rw [List.mem_append] at hc
      rcases hc with hc | hc
      · exact i2 c hc
      · exact ⟨n % base, hm, by simpa using hc⟩
    · obtain ⟨d, h1, h2, h3⟩ := i3
      refine ⟨d, h1, ?_, fun h0 => by have := h3 h0; omega⟩
      rw [getD_app i4]; exact h2
termination_by n

theorem getD_mem {l : List UInt8} {k : Nat} (h : k < l.length) : l.getD k 0 ∈ l := by
  rw [getD_lt h]; exact List.getElem_mem h

theorem digits_run {base n : Nat} (hb : 2 ≤ base) (hb2 : base ≤ 16) : ∀ j, j < (digitsL base n).length → runB ((digitsL base n).getD j 0) = true := fun j hj => by
  obtain ⟨d, h1, h2⟩ := (digits_facts hb hb2 0 n).2.1 _ (getD_mem hj)
  rw [h2]; exact dc_run (by omega)

theorem reckV_digits {base n most : Nat} (hb : 2 ≤ base) (hb2 : base ≤ 16) (h : n ≤ most) : reckV (digitsL base n) base most = some n := by
  have f := digits_facts hb hb2 most n
  unfold reckV
  rw [if_neg (fun h0 => by rw [h0] at f; exact absurd f.2.2.2 (by simp)), f.1 h]

theorem formP_10 {n : Nat} (h : 0 < n) : formP (digitsL 10 n) = (digitsL 10 n, 10) := by
  obtain ⟨d, h1, h2, h3⟩ := (digits_facts (base := 10) (by omega) (by omega) 0 n).2.2.1
  unfold formP
  rw [if_pos]
  rw [h2]; exact dc_pos (by omega) (fun h0 => by have := h3 h0; omega)

theorem numP_10 {n : Nat} (h : n ≤ 4294967295) : numP (digitsL 10 n) = some (n : Int) := by
  have hd := reckV_digits (base := 10) (n := n) (by omega) (by omega) h
  obtain ⟨d, h1, h2, h3⟩ := (digits_facts (base := 10) (by omega) (by omega) 0 n).2.2.1
  by_cases h0 : n = 0
  · subst h0; decide
  · unfold numP
    rw [if_pos (by rw [h2]; exact (dc_not_x (by omega)).2), formP_10 (by omega)]
    simp only
    rw [hd]; rfl

theorem numP_minus {n : Nat} (h0 : 0 < n) (h : n ≤ 2147483648) : numP (45 :: digitsL 10 n) = some (-(n : Int)) := by
  have hd := reckV_digits (base := 10) (n := n) (by omega) (by omega) h
  unfold numP
  rw [if_neg (by simp)]
  rw [show (45 :: digitsL 10 n).drop 1 = digitsL 10 n from rfl, formP_10 h0]
  simp only
  rw [if_neg (by simp), hd]; rfl

theorem numP_16 {n : Nat} (h : n ≤ 4294967295) : numP (48 :: 120 :: digitsL 16 n) = some (n : Int) := by
  have hd := reckV_digits (base := 16) (n := n) (by omega) (by omega) h
  have hf : formP (48 :: 120 :: digitsL 16 n) = (digitsL 16 n, 16) := by
    unfold formP
    rw [if_neg (by simp), if_pos (by simp)]; rfl
  unfold numP
  rw [if_pos (by simp), hf]
  simp only
  rw [hd]; rfl

theorem numP_8 {n : Nat} (h : n ≤ 4294967295) : numP (48 :: digitsL 8 n) = some (n : Int) := by
  obtain ⟨f1, f2, ⟨d, h1, h2, h3⟩, f4⟩ := digits_facts (base := 8) (by omega) (by omega) 4294967295 n
  have hf : formP (48 :: digitsL 8 n) = (48 :: digitsL 8 n, 8) := by
    unfold formP
    rw [if_neg (by simp), if_neg]
    rintro ⟨_, hx⟩
    rw [show (48 :: digitsL 8 n).getD 1 0 = (digitsL 8 n).getD 0 0 from rfl, h2] at hx
    exact (dc_not_x (by omega)).1 hx
  unfold numP
  rw [if_pos (by simp), hf]
  simp only
  unfold reckV
  rw [if_neg (by simp)]
  have : reckP 8 4294967295 0 (48 :: digitsL 8 n) = reckP 8 4294967295 0 (digitsL 8 n) := by
    rw [reckP]
    have e : digV 48 = 0 := by decide
    rw [e, if_neg (by omega), if_neg (by omega)]
  rw [this, f1 h]; rfl

/- pieces -/
structure Pc where
  what : Int
  n : Int
  s : List UInt8
  gap : List Int

def ofL : List UInt8 := [97, 98, 99, 100, 101, 102, 103, 104, 105, 106, 107, 108, 109, 110, 111, 112, 113, 114, 115, 116, 117, 118, 119, 120, 121, 122, 65, 66, 67, 68, 69, 70, 71, 72, 73, 74, 75, 76, 77, 78, 79, 80, 81, 82, 83, 84, 85, 86, 87, 88, 89, 90, 48, 49, 50, 51, 52, 53, 54, 55, 56, 57, 95]
def runL : List UInt8 → List UInt8
  | [] => [113]
  | c :: r => ofL.getD (c.toNat % 52) 0 :: (r.take 31).map fun x => ofL.getD (x.toNat % 63) 0

def signT (n : Int) : List UInt8 := [([123, 125, 40, 41, 91, 93, 60, 62, 61, 59, 58, 44, 42] : List UInt8).getD (pickP n 13).toNat 0]

def tokP (p : Pc) : Tok × List UInt8 :=
  if p.what = 0 then (⟨if isWordP (runL p.s) then 2 else 1, runL p.s, 0, 0⟩, runL p.s)
  else if p.what = 1 then
    (if p.n < 0 ∧ -2147483648 ≤ p.n then (⟨3, [], p.n, 0⟩, 45 :: digitsL 10 (-p.n).toNat) else (⟨3, [], pickP p.n 4294967296, 0⟩, digitsL 10 (pickP p.n 4294967296).toNat))
  else if p.what = 2 then (⟨3, [], pickP p.n 4294967296, 0⟩, 48 :: 120 :: digitsL 16 (pickP p.n 4294967296).toNat)
  else if p.what = 3 then (⟨3, [], pickP p.n 4294967296, 0⟩, 48 :: digitsL 8 (pickP p.n 4294967296).toNat)
  else (⟨4, signT p.n, 0, 0⟩, signT p.n)

theorem pickP_range {c n : Int} (h : 0 < n) : 0 ≤ pickP c n ∧ pickP c n < n := by
  unfold pickP
  split
  · exact ⟨Int.emod_nonneg _ (by omega), Int.emod_lt_of_pos _ h⟩
  · exact ⟨Int.emod_nonneg _ (by omega), Int.emod_lt_of_pos _ h⟩

theorem ofL_let {k : Nat} (h : k < 52) : letB (ofL.getD k 0) = true := by
  have : ∀ k : Fin 52, letB (ofL.getD k.val 0) = true := by decide
  exact this ⟨k, h⟩
theorem ofL_run {k : Nat} (h : k < 63) : runB (ofL.getD k 0) = true := by
  have : ∀ k : Fin 63, runB (ofL.getD k.val 0) = true := by decide
  exact this ⟨k, h⟩

theorem runL_facts (s : List UInt8) : letB ((runL s).getD 0 0) = true ∧ (∀ c ∈ runL s, runB c = true) ∧ (runL s).length ≤ 32 ∧ 0 < (runL s).length := by
  match s with
  | [] => exact ⟨by decide, fun c hc => by simp [runL] at hc; subst hc; decide, by simp [runL], by simp [runL]⟩
  | c :: r =>
    have h0 := ofL_let (k := c.toNat % 52) (Nat.mod_lt _ (by omega))
    refine ⟨h0, fun x hx => ?_, by simp [runL]; omega, by simp [runL]⟩
    simp only [runL, List.mem_cons, List.mem_map] at hx
    rcases hx with rfl | ⟨y, _, rfl⟩
    · exact (let_not h0).2.2.2.2.2
    · exact ofL_run (Nat.mod_lt _ (by omega))

theorem sign_13 {k : Nat} (h : k < 13) : signB (([123, 125, 40, 41, 91, 93, 60, 62, 61, 59, 58, 44, 42] : List UInt8).getD k 0) = true := by
  have : ∀ k : Fin 13, signB (([123, 125, 40, 41, 91, 93, 60, 62, 61, 59, 58, 44, 42] : List UInt8).getD k.val 0) = true := by decide
  exact this ⟨k, h⟩

theorem signT_sign (n : Int) : signB ((signT n).getD 0 0) = true := by
  have h := pickP_range (c := n) (n := 13) (by omega)
  exact sign_13 (k := (pickP n 13).toNat) (by omega)

/-- steps over a token of each kind -/
theorem step_name {a t r : List UInt8} (h0 : letB (t.getD 0 0) = true) (hr : ∀ c ∈ t, runB c = true) (hl : t.length ≤ 32) (hp : 0 < t.length) (hc : runB (r.getD 0 0) = false) :
    stepS (a ++ (t ++ r)) a.length = .go (some ⟨if isWordP t then 2 else 1, t, 0, a.length⟩) (a.length + t.length) := by
  have e0 : (a ++ (t ++ r)).getD a.length 0 = t.getD 0 0 := by have := getD_mid (a := a) (b := t) (c := r) (k := 0) hp; simpa using this
  have e1 : runEnd (a ++ (t ++ r)) a.length = a.length + t.length := by
    have := runEnd_mid (a := a) (b := t) (c := r) (k := 0) (by omega) (fun j _ hj => hr _ (getD_mem hj)) hc
    simpa using this
  have hb := let_not h0
  unfold stepS
  rw [e0, if_neg (by rw [hb.1]; decide), if_neg (fun h => hb.2.1 h.1), if_pos h0, e1, if_neg (by omega), sub_mid]

theorem step_num {a t r : List UInt8} {n : Int} (hn : numP t = some n) (h0 : blankB (t.getD 0 0) = false ∧ t.getD 0 0 ≠ 47 ∧ letB (t.getD 0 0) = false) (k : Nat) (hk : k < t.length) (hk2 : k = if t.getD 0 0 = 45 then 1 else 0)
    (hd : digB (t.getD k 0) = true) (hr : ∀ j, k ≤ j → j < t.length → runB (t.getD j 0) = true) (hc : runB (r.getD 0 0) = false) :
    stepS (a ++ (t ++ r)) a.length = .go (some ⟨3, [], n, a.length⟩) (a.length + t.length) := by
  have e0 : (a ++ (t ++ r)).getD a.length 0 = t.getD 0 0 := by have := getD_mid (a := a) (b := t) (c := r) (k := 0) (by omega); simpa using this
  have e1 : numAt (a ++ (t ++ r)) a.length = a.length + k := by
    unfold numAt; rw [e0, hk2]; split <;> rfl
  have e2 := runEnd_mid (a := a) (b := t) (c := r) (k := k) (by omega) hr hc
  have e3 : (a ++ (t ++ r)).getD (a.length + k) 0 = t.getD k 0 := getD_mid hk
  unfold stepS
  rw [e0, if_neg (by rw [h0.1]; decide), if_neg (fun h => h0.2.1 h.1), if_neg (by rw [h0.2.2]; decide), e1, e3, if_pos hd, e2, sub_mid, hn]

theorem step_sign {a r : List UInt8} {c : UInt8} (h : signB c = true) : stepS (a ++ ([c] ++ r)) a.length = .go (some ⟨4, [c], 0, a.length⟩) (a.length + 1) := by
  have e0 : (a ++ ([c] ++ r)).getD a.length 0 = c := by rw [getD_mid0]; rfl
  have hb := sign_not h
  have hn : numAt (a ++ ([c] ++ r)) a.length = a.length := by unfold numAt; rw [e0, if_neg hb.2.2.2.1]
  unfold stepS
  rw [hn, e0, if_neg (by rw [hb.1]; decide), if_neg (fun h => hb.2.1 h.1), if_neg (by rw [hb.2.2.1]; decide), if_neg (by rw [hb.2.2.2.2.1]; decide), if_pos h]
  have := sub_mid (a := a) (b := [c]) (c := r)
  simp only [List.length_cons, List.length_nil, Nat.zero_add] at this
  rw [this]

def kindOk (k : Int) (r : List UInt8) : Prop := k = 4 ∨ runB (r.getD 0 0) = false

theorem step_dig {a t r : List UInt8} {n : Int} (hn : numP t = some n) (hp : 0 < t.length) (hd : digB (t.getD 0 0) = true) (hr : ∀ j, j < t.length → runB (t.getD j 0) = true) (hc : runB (r.getD 0 0) = false) :
    stepS (a ++ (t ++ r)) a.length = .go (some ⟨3, [], n, a.length⟩) (a.length + t.length) := by
  have hb := dig_not hd
  exact step_num hn ⟨hb.1, hb.2.1, hb.2.2.1⟩ 0 hp (by rw [if_neg hb.2.2.2.1]) hd (fun j _ => hr j) hc

theorem cons_run {c : UInt8} {t : List UInt8} (hc : runB c = true) (h : ∀ j, j < t.length → runB (t.getD j 0) = true) : ∀ j, j < (c :: t).length → runB ((c :: t).getD j 0) = true := fun j hj => by
  cases j with
  | zero => exact hc
  | succ j => exact h j (by simpa using hj)

theorem step_tok (p : Pc) (a r : List UInt8) (hk : kindOk (tokP p).1.kind r) :
    stepS (a ++ ((tokP p).2 ++ r)) a.length = .go (some { (tokP p).1 with at_ := a.length }) (a.length + (tokP p).2.length) := by
  unfold kindOk at hk
  have hpk := pickP_range (c := p.n) (n := 4294967296) (by omega)
  have dig0 : ∀ n : Nat, digB ((digitsL 10 n).getD 0 0) = true := fun n => by
    obtain ⟨d, h1, h2, _⟩ := (digits_facts (base := 10) (by omega) (by omega) 0 n).2.2.1
    rw [h2]; exact dc_dig h1
  have pos : ∀ base n : Nat, 2 ≤ base → base ≤ 16 → 0 < (digitsL base n).length := fun base n h1 h2 => (digits_facts h1 h2 0 n).2.2.2
  unfold tokP at hk ⊢
  split
  · rename_i h0
    rw [if_pos h0] at hk
    obtain ⟨h1, h2, h3, h4⟩ := runL_facts p.s
    refine step_name h1 h2 h3 h4 ?_
    rcases hk with hk | hk
    · simp only at hk; split at hk <;> cases hk
    · exact hk
  rename_i h0
  rw [if_neg h0] at hk
  split
  · rename_i h1
    rw [if_pos h1] at hk
    split
    · rename_i h2
      rw [if_pos h2] at hk
      have hc : runB (r.getD 0 0) = false := by rcases hk with hk | hk; cases hk; exact hk
      have hn : numP (45 :: digitsL 10 (-p.n).toNat) = some p.n := by
        rw [numP_minus (by omega) (by omega)]; congr 1; omega
      exact step_num hn (show blankB 45 = false ∧ (45 : UInt8) ≠ 47 ∧ letB 45 = false by decide) 1 (by have := pos 10 (-p.n).toNat (by omega) (by omega); simp; omega) rfl (dig0 _) (fun j h1 h2 => by
        obtain ⟨j, rfl⟩ : ∃ i, j = i + 1 := ⟨j - 1, by omega⟩
        exact digits_run (by omega) (by omega) j (by simpa using h2)) hc
    · rename_i h2
      rw [if_neg h2] at hk
      have hc : runB (r.getD 0 0) = false := by rcases hk with hk | hk; cases hk; exact hk
      have hn : numP (digitsL 10 (pickP p.n 4294967296).toNat) = some (pickP p.n 4294967296) := by
        rw [numP_10 (by omega)]; congr 1; omega
      exact step_dig hn (pos _ _ (by omega) (by omega)) (dig0 _) (digits_run (by omega) (by omega)) hc
  rename_i h1
  rw [if_neg h1] at hk
  split
  · rename_i h2
    rw [if_pos h2] at hk
    have hc : runB (r.getD 0 0) = false := by rcases hk with hk | hk; cases hk; exact hk
    have hn : numP (48 :: 120 :: digitsL 16 (pickP p.n 4294967296).toNat) = some (pickP p.n 4294967296) := by
      rw [numP_16 (by omega)]; congr 1; omega
    exact step_dig hn (by simp) (show digB 48 = true by decide) (cons_run (by decide) (cons_run (by decide) (digits_run (by omega) (by omega)))) hc
  rename_i h2
  rw [if_neg h2] at hk
  split
  · rename_i h3
    rw [if_pos h3] at hk
    have hc : runB (r.getD 0 0) = false := by rcases hk with hk | hk; cases hk; exact hk
    have hn : numP (48 :: digitsL 8 (pickP p.n 4294967296).toNat) = some (pickP p.n 4294967296) := by
      rw [numP_8 (by omega)]; congr 1; omega
    exact step_dig hn (by simp) (show digB 48 = true by decide) (cons_run (by decide) (digits_run (by omega) (by omega))) hc
  · have h := signT_sign p.n
    exact step_sign (c := (signT p.n).getD 0 0) h

theorem tok_len (p : Pc) : 0 < (tokP p).2.length := by
  have pos : ∀ base n : Nat, 2 ≤ base → base ≤ 16 → 0 < (digitsL base n).length := fun base n h1 h2 => (digits_facts h1 h2 0 n).2.2.2
  unfold tokP
  repeat' split
  all_goals first | exact (runL_facts p.s).2.2.2 | exact pos _ _ (by omega) (by omega) | (simp [signT]; done)

theorem tok_first (p : Pc) (h : (tokP p).1.kind = 4) (r : List UInt8) : runB (((tokP p).2 ++ r).getD 0 0) = false := by
  unfold tokP at h ⊢
  split
  · rename_i h0; rw [if_pos h0] at h; simp only at h; split at h <;> cases h
  rename_i h0; rw [if_neg h0] at h
  split
  · rename_i h1; rw [if_pos h1] at h; split at h <;> cases h
  rename_i h1; rw [if_neg h1] at h
  split
  · rename_i h2; rw [if_pos h2] at h; cases h
  rename_i h2; rw [if_neg h2] at h
  split
  · rename_i h3; rw [if_pos h3] at h; cases h
  · exact (sign_not (signT_sign p.n)).2.2.2.2.2

def spaceP (last : Int) (p : Pc) : List UInt8 := if p.gap = [] ∧ (last = 4 ∨ (tokP p).1.kind = 4) then [] else gapP p.gap

structure Bld where
  s : List UInt8
  w : List Tok
  last : Int

def bldOne (b : Bld) (p : Pc) : Bld :=
  ⟨b.s ++ spaceP b.last p ++ (tokP p).2, b.w ++ [{ (tokP p).1 with at_ := (b.s ++ spaceP b.last p).length }], (tokP p).1.kind⟩
def bldP (l : List Pc) : Bld := l.foldl bldOne ⟨[], [], 4⟩

theorem bldP_snoc (l : List Pc) (p : Pc) : bldP (l ++ [p]) = bldOne (bldP l) p := by
  unfold bldP; rw [List.foldl_append]; rfl

theorem reach_space (last : Int) (p : Pc) (a r : List UInt8) (ts : List Tok) : Reach (a ++ (spaceP last p ++ r)) a.length ts (a.length + (spaceP last p).length) ts := by
  unfold spaceP
  split
  · exact .refl
  · exact reach_gap p.gap a r ts

theorem space_first (last : Int) (p : Pc) (r : List UInt8) : kindOk last (spaceP last p ++ ((tokP p).2 ++ r)) := by
  unfold spaceP kindOk
  split
  · rename_i h
    rcases h.2 with h2 | h2
    · exact .inl h2
    · exact .inr (by rw [List.nil_append]; exact tok_first p h2 r)
  · exact .inr (by show runB 32 = false; decide)

theorem bld_one_reach {b : Bld} (hb : ∀ r, kindOk b.last r → Reach (b.s ++ r) 0 [] b.s.length b.w) (p : Pc) (r : List UInt8) (hr : kindOk (bldOne b p).last r) : Reach ((bldOne b p).s ++ r) 0 [] (bldOne b p).s.length (bldOne b p).w := by
  have h1 := hb (spaceP b.last p ++ ((tokP p).2 ++ r)) (space_first _ _ _)
  have h2 := reach_space b.last p b.s ((tokP p).2 ++ r) b.w
  have h3 := step_tok p (b.s ++ spaceP b.last p) r hr
  have e : (bldOne b p).s ++ r = b.s ++ (spaceP b.last p ++ ((tokP p).2 ++ r)) := by simp [bldOne]
  have e2 : (b.s ++ spaceP b.last p) ++ ((tokP p).2 ++ r) = b.s ++ (spaceP b.last p ++ ((tokP p).2 ++ r)) := by simp
  rw [e2, List.length_append] at h3
  rw [e]
  have hl := tok_len p
  refine (h1.trans h2).trans (.step (by simp; omega) h3 ?_)
  have e4 : (bldOne b p).s.length = b.s.length + (spaceP b.last p).length + (tokP p).2.length := by simp [bldOne]; omega
  have e5 : b.w ++ (some { (tokP p).1 with at_ := b.s.length + (spaceP b.last p).length }).toList = (bldOne b p).w := by simp [bldOne]
  rw [e4, e5]
  exact .refl

theorem bld_fold_reach : ∀ (l : List Pc) (b : Bld), (∀ r, kindOk b.last r → Reach (b.s ++ r) 0 [] b.s.length b.w) → ∀ r, kindOk (l.foldl bldOne b).last r → Reach ((l.foldl bldOne b).s ++ r) 0 [] (l.foldl bldOne b).s.length (l.foldl bldOne b).w
  | [], _, hb, r, hr => hb r hr
  | p :: l, b, hb, r, hr => bld_fold_reach l (bldOne b p) (fun r hr => bld_one_reach hb p r hr) r hr

theorem bld_reach (l : List Pc) (r : List UInt8) (hr : kindOk (bldP l).last r) : Reach ((bldP l).s ++ r) 0 [] (bldP l).s.length (bldP l).w :=
  bld_fold_reach l ⟨[], [], 4⟩ (fun _ _ => .refl) r hr

def srcP (l : List Pc) (behind : List Int) : List UInt8 := (bldP l).s ++ (if behind = [] then [] else gapP behind)

/-- the stage's theorem, plainly -/
theorem parts (l : List Pc) (behind : List Int) (h : (srcP l behind).length ≤ 16000) : scanP (srcP l behind) = .ok ((bldP l).w ++ [⟨5, [], 0, (srcP l behind).length⟩]) := by
  have key : Reach (srcP l behind) 0 [] (srcP l behind).length (bldP l).w := by
    unfold srcP
    split
    · have := bld_reach l [] (.inr (by show runB 0 = false; decide))
      simpa using this
    · have h1 := bld_reach l (gapP behind) (.inr (by show runB 32 = false; decide))
      have h2 := reach_gap behind (bldP l).s [] (bldP l).w
      rw [List.append_nil] at h2
      rw [List.length_append]
      exact h1.trans h2
  exact (scanP_scans h).det (key.scans (.done (Nat.le_refl _)))

end Go.Proofs.Ythnnmgiihpdblab
