/- Lex, plainly: the document's numbers and words are the program's. -/
import Derived.Test.YthnnmgiihpdblabLp
namespace Go.Proofs.Ythnnmgiihpdblab

def numR (r : List UInt8) (minus : Bool) : Option Int :=
  if minus then (reckV r 10 4294967295).bind fun n => if r.getD 0 0 ≠ 48 ∧ n ≤ 2147483648 then some (-(n : Int)) else none
  else if r = [48] then some 0
  else if 2 < r.length ∧ r.take 2 = [48, 120] then (reckV (r.drop 2) 16 4294967295).map fun (n : Nat) => (n : Int)
  else if r.getD 0 0 = 48 then (reckV (r.drop 1) 8 4294967295).map fun (n : Nat) => (n : Int)
  else (reckV r 10 4294967295).map fun (n : Nat) => (n : Int)

theorem reckP_ge (base most : Nat) (hb : 1 ≤ base) : ∀ (l : List UInt8) (n m : Nat), reckP base most n l = some m → n ≤ m
  | [], n, m, h => by simp only [reckP, Option.some.injEq] at h; omega
  | c :: r, n, m, h => by
    simp only [reckP] at h
    split at h
    · cases h
    split at h
    · cases h
    have h1 := reckP_ge base most hb r _ m h
    have h2 : n * 1 ≤ n * base := Nat.mul_le_mul_left n hb
    omega

theorem reckP_less (base most less : Nat) (hb : 1 ≤ base) (hl : less ≤ most) : ∀ (l : List UInt8) (n : Nat), n ≤ less → reckP base less n l = (reckP base most n l).bind fun m => if m ≤ less then some m else none
  | [], n, h => by simp [reckP, h]
  | c :: r, n, h => by
    simp only [reckP]
    split
    · rfl
    by_cases h1 : less < n * base + digV c
    · rw [if_pos h1]
      split
      · rfl
      · cases h3 : reckP base most (n * base + digV c) r with
        | none => rfl
        | some m =>
          have := reckP_ge base most hb r _ m h3
          simp; omega
    · rw [if_neg h1, if_neg (by omega), reckP_less base most less hb hl r _ (by omega)]

theorem numR_plain {r : List UInt8} (h0 : r.getD 0 0 ≠ 45) (hne : r ≠ []) : numR r false = numP r := by
  unfold numR numP
  rw [if_neg (by decide), if_pos h0]
  by_cases h1 : r = [48]
  · subst h1; decide
  rw [if_neg h1]
  unfold formP
  by_cases h48 : r.getD 0 0 = 48
  · rw [if_neg (show ¬ (r.getD 0 0 ≠ 48) from fun h => h h48)]
    match r, hne, h1, h48 with
    | [a], _, h1, h48 => exact absurd (by simpa using h48) h1
    | a :: b :: r, _, h1, h48 =>
      have ha : a = 48 := h48
      subst ha
      by_cases hx : b = 120
      · subst hx
        rw [if_pos (show 1 < (48 :: 120 :: r : List UInt8).length ∧ (48 :: 120 :: r : List UInt8).getD 1 0 = 120 from ⟨by simp, rfl⟩)]
        match r with
        | [] => decide
        | c :: r =>
          rw [if_pos ⟨by simp, rfl⟩]
      · rw [if_neg (show ¬ (1 < (48 :: b :: r : List UInt8).length ∧ (48 :: b :: r : List UInt8).getD 1 0 = 120) from fun h => hx h.2)]
        rw [if_neg (fun h => hx (by have := h.2; simp at this; exact this)), if_pos (show (48 :: b :: r : List UInt8).getD 0 0 = 48 from rfl)]
        have e : digV 48 = 0 := by decide
        have : reckP 8 4294967295 0 (48 :: b :: r) = reckP 8 4294967295 0 (b :: r) := by
          rw [reckP, e, if_neg (by omega), if_neg (by omega)]
        show (reckV (b :: r) 8 4294967295).map _ = (reckV (48 :: b :: r) 8 4294967295).map _
        unfold reckV
        rw [if_neg (by simp), if_neg (by simp), this]
  · rw [if_neg (fun h => h48 (by
      match r, h.2 with
      | a :: b :: r, h2 => simp at h2; exact h2.1)), if_neg h48, if_pos h48]

theorem numR_minus {r : List UInt8} : numR r true = numP (45 :: r) := by
  unfold numR numP
  rw [if_pos rfl, if_neg (by simp)]
  show _ = if (formP r).2 ≠ 10 then none else (reckV (formP r).1 10 2147483648).map fun (n : Nat) => -(n : Int)
  unfold formP
  by_cases h48 : r.getD 0 0 = 48
  · rw [if_neg (show ¬ (r.getD 0 0 ≠ 48) from fun h => h h48), if_pos]
    · cases reckV r 10 4294967295 with
      | none => rfl
      | some n => show (if r.getD 0 0 ≠ 48 ∧ n ≤ 2147483648 then some (-(n : Int)) else none) = _; rw [if_neg (fun h => h.1 h48)]
    · split <;> simp
  · rw [if_pos h48, if_neg (by simp)]
    show _ = (reckV r 10 2147483648).map fun (n : Nat) => -(n : Int)
    unfold reckV
    split
    · rfl
    · rw [reckP_less 10 4294967295 2147483648 (by omega) (by omega) r 0 (by omega)]
      cases reckP 10 4294967295 0 r with
      | none => rfl
      | some n =>
        show (if r.getD 0 0 ≠ 48 ∧ n ≤ 2147483648 then some (-(n : Int)) else none) = Option.map _ (if n ≤ 2147483648 then some n else none)
        by_cases hn : n ≤ 2147483648
        · rw [if_pos ⟨h48, hn⟩, if_pos hn]; rfl
        · rw [if_neg (fun h => hn h.2), if_neg hn]; rfl

/- words -/
def WordsL : List UInt8 := [32, 98, 111, 111, 108, 32, 99, 97, 115, 101, 32, 99, 111, 110, 115, 116, 32, 100, 101, 102, 97, 117, 108, 116, 32, 100, 111, 117, 98, 108, 101, 32, 101, 110, 117, 109, 32, 102, 108, 111, 97, 116, 32, 104, 121, 112, 101, 114, 32, 105, 110, 116, 32, 111, 112, 97, 113, 117, 101, 32, 112, 114, 111, 103, 114, 97, 109, 32, 113, 117, 97, 100, 114, 117, 112, 108, 101, 32, 115, 116, 114, 105, 110, 103, 32, 115, 116, 114, 117, 99, 116, 32, 115, 119, 105, 116, 99, 104, 32, 116, 121, 112, 101, 100, 101, 102, 32, 117, 110, 105, 111, 110, 32, 117, 110, 115, 105, 103, 110, 101, 100, 32, 118, 101, 114, 115, 105, 111, 110, 32, 118, 111, 105, 100, 32]

theorem words_len : WordsL.length = 135 := by decide +kernel

/-- a run between two blanks is a word -/
theorem words_only {s : List UInt8} {i : Nat} (hr : ∀ c ∈ s, runB c = true) (hs : s ≠ []) (hi : i + (s.length + 2) ≤ 135) (h : sub WordsL i (i + (s.length + 2)) = 32 :: (s ++ [32])) : s ∈ wordsL := by
  have hall : ∀ i : Fin 135, ∀ n : Fin 12, (decide (1 ≤ n.val)) && ((sub WordsL (i.val + 1) (i.val + 1 + n.val)).all runB) && (WordsL.getD i.val 0 == 32) && (WordsL.getD (i.val + 1 + n.val) 0 == 32) && decide (i.val + 2 + n.val ≤ 135) = true → (sub WordsL (i.val + 1) (i.val + 1 + n.val)) ∈ wordsL := by decide +kernel
  have hlong : ∀ i : Fin 135, i.val + 14 ≤ 135 → (sub WordsL (i.val + 1) (i.val + 1 + 12)).all runB = false := by decide +kernel
  have g : ∀ k, k < s.length + 2 → WordsL.getD (i + k) 0 = (32 :: (s ++ [32])).getD k 0 := fun k hk => by
    rw [← h]; unfold sub
    rw [List.getD_eq_getElem?_getD, List.getD_eq_getElem?_getD, List.getElem?_take, if_pos (by omega), List.getElem?_drop]
  have hsub : ∀ n, n ≤ s.length → sub WordsL (i + 1) (i + 1 + n) = s.take n := fun n hn => by
    have e : sub WordsL (i + 1) (i + 1 + n) = ((sub WordsL i (i + (s.length + 2))).drop 1).take n := by
      unfold sub
      rw [List.drop_take, List.drop_drop, List.take_take]
      congr 1; omega
    rw [e, h]
    show (s ++ [32]).take n = _
    rw [List.take_append_of_le_length hn]
  by_cases h12 : s.length < 12
  · have := hall ⟨i, by omega⟩ ⟨s.length, h12⟩
    have e := hsub s.length (Nat.le_refl _)
    rw [List.take_length] at e
    simp only at this
    rw [e] at this
    refine this ?_
    have h0 : WordsL.getD i 0 = 32 := g 0 (by omega)
    have h1 : WordsL.getD (i + 1 + s.length) 0 = 32 := by
      rw [Nat.add_assoc, g (1 + s.length) (by omega), show 1 + s.length = s.length + 1 by omega]
      show (s ++ [32]).getD s.length 0 = 32
      rw [getD_mid0]; rfl
    have hp : 1 ≤ s.length := by cases s with | nil => exact absurd rfl hs | cons => simp
    rw [h0, h1, List.all_eq_true.2 hr, decide_eq_true hp, decide_eq_true (show i + 2 + s.length ≤ 135 by omega)]; rfl
  · have := hlong ⟨i, by omega⟩ (by simp only; omega)
    have e := hsub 12 (by omega)
    simp only at this
    rw [e, List.all_eq_true.2 fun c hc => hr c (List.mem_of_mem_take hc)] at this
    cases this

/-- a word stands between two blanks, at this place -/
def wordAt : List UInt8 → Nat := fun s => ((List.range 135).find? fun i => sub WordsL i (i + (s.length + 2)) == 32 :: (s ++ [32])).getD 0
theorem words_all : ∀ s ∈ wordsL, sub WordsL (wordAt s) (wordAt s + (s.length + 2)) = 32 :: (s ++ [32]) ∧ wordAt s + (s.length + 2) ≤ 135 ∧ s ≠ [] ∧ s.all runB = true := by decide +kernel

end Go.Proofs.Ythnnmgiihpdblab
