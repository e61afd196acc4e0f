/- The program's scanner: what ends. -/
import Derived.Test.YthnnmgiihpdblabLg
import Derived.Deep.QuietTactic
import Derived.BigQuiet
namespace Go.Proofs.Ythnnmgiihpdblab
open Go.RowKit

def EndPost (p : Nat) (l : List UInt8) (st frm : Nat) (v : Value) (ts : List Tok) (r : Int × Option Tok) (w : World) (e : Ending) (w' : World) : Prop :=
  e = .returned (.int .i64 r.1) ∧ ∃ v', SC w' p l st frm v' (ts ++ r.2.toList) ∧ Kept p v v' w w'

theorem SC.drewN {w : World} {p : Nat} {l : List UInt8} {st frm : Nat} {v : Value} {ts : List Tok} (h : SC w p l st frm v ts) (k : Nat) : SC (w.drewN k) p l st frm v ts := ⟨h.s, h.i, h.f, h.t, h.f1, h.f2, h.f3, h.own⟩
theorem Kept.drewN (p : Nat) (v : Value) (w : World) (k : Nat) : Kept p v v w (w.drewN k) := ⟨rfl, rfl, rfl, Nat.le_refl _, fun _ _ _ _ => rfl, .inl rfl⟩

def endNumR (text : List UInt8) (frm : Nat) : Int × Option Tok := match numP text with | some n => (0, some ⟨3, [], n, frm⟩) | none => (31, none)

theorem endNumber_any (p : Nat) (l text : List UInt8) (st frm : Nat) (v : Value) (ts : List Tok) (w : World) (h : SC w p l st frm v ts) (hn : ts.length ≤ 100000) (h0 : 0 < text.length) (h1 : text.getD 0 0 = 45 → 1 < text.length) (hl : (text.length : Int) ≤ 9223372036854775807) :
    Calls Try.prog 34 #[.pointer (some ⟨p, 0, none⟩), S text] w (EndPost p l st frm v ts (endNumR text frm) w) := by
  have H1 : Hid (∀ w, Calls Try.prog 43 #[S text] w fun e w' => e = .returned (numAns (numP text)) ∧ w' = w) := fun w => number_any text w h0 h1 hl
  unfold endNumR
  have HS : Hid (SC w p l st frm v ts) := h
  clear h0 h1 h
  cases hnum : numP text with
  | none =>
    rw [hnum] at H1
    clear hnum
    go_enter Try.func34, Try.ntmps34
    go_wp2_with fail
    refine (H1.out _).mono ?_
    rintro e w1 ⟨rfl, rfl⟩
    simp only [numAns]
    go_wp2
    go_ret
    exact ⟨rfl, v, by simpa using HS.out, Kept.refl _ _ _⟩
  | some n =>
    rw [hnum] at H1
    clear hnum
    have H2 : Hid (Calls Try.prog 36 #[.pointer (some ⟨p, 0, none⟩), .int .i64 3, S [], .int .i64 n] w fun e w' => e = .returned (.tuple #[]) ∧ ∃ v', SC w' p l st frm v' (ts ++ [⟨3, [], n, frm⟩]) ∧ Kept p v v' w w') := lay_any p l [] st frm v ts 3 n w HS.out hn
    go_enter Try.func34, Try.ntmps34
    go_wp2_with fail
    refine (H1.out _).mono ?_
    rintro e w1 ⟨rfl, hw⟩
    have hw1 := hw.symm
    clear hw
    subst hw1
    simp only [numAns]
    go_wp2_with fail
    refine H2.out.mono ?_
    rintro e w2 ⟨rfl, hp⟩
    have HP : Hid (∃ v', SC w2 p l st frm v' (ts ++ [⟨3, [], n, frm⟩]) ∧ Kept p v v' w w2) := hp
    clear hp
    go_wp2
    go_ret
    exact ⟨rfl, HP.out⟩

def endNameR (text : List UInt8) (frm : Nat) : Int × Option Tok := if 32 < text.length then (32, none) else (0, some ⟨if isWordP text then 2 else 1, text, 0, frm⟩)

theorem endName_any (p : Nat) (l text : List UInt8) (st frm : Nat) (v : Value) (ts : List Tok) (w : World) (h : SC w p l st frm v ts) (hn : ts.length ≤ 100000) :
    Calls Try.prog 35 #[.pointer (some ⟨p, 0, none⟩), S text] w (EndPost p l st frm v ts (endNameR text frm) w) := by
  unfold endNameR
  by_cases h32 : 32 < text.length
  · rw [if_pos h32]
    have h32' : (32 : Int) < text.length := by omega
    have HS : Hid (SC w p l st frm v ts) := h
    clear h
    go_enter Try.func35, Try.ntmps35
    go_wp2
    go_ret
    exact ⟨rfl, v, by simpa using HS.out, Kept.refl _ _ _⟩
  · rw [if_neg h32]
    have h32' : (text.length : Int) ≤ 32 := by omega
    have H1 : Hid (∀ w, Calls Try.prog 11 #[S text] w fun e w' => e = .returned (.bool (isWordP text)) ∧ w' = w) := fun w => isWord_any text w
    have H2 : Hid (∀ k, Calls Try.prog 36 #[.pointer (some ⟨p, 0, none⟩), .int .i64 k, S text, .int .i64 0] w fun e w' => e = .returned (.tuple #[]) ∧ ∃ v', SC w' p l st frm v' (ts ++ [⟨k, text, 0, frm⟩]) ∧ Kept p v v' w w') := fun k => lay_any p l text st frm v ts k 0 w h hn
    clear h32 h
    generalize isWordP text = b at *
    cases b
    · go_enter Try.func35, Try.ntmps35
      go_wp2_with fail
      refine (H1.out _).mono ?_
      rintro e w1 ⟨rfl, hw⟩
      have hw1 := hw.symm
      clear hw
      subst hw1
      go_wp2_with fail
      refine (H2.out _).mono ?_
      rintro e w2 ⟨rfl, hp⟩
      have HP : Hid (∃ v', SC w2 p l st frm v' (ts ++ [⟨1, text, 0, frm⟩]) ∧ Kept p v v' w w2) := hp
      clear hp
      go_wp2
      go_ret
      exact ⟨rfl, HP.out⟩
    · go_enter Try.func35, Try.ntmps35
      go_wp2_with fail
      refine (H1.out _).mono ?_
      rintro e w1 ⟨rfl, hw⟩
      have hw1 := hw.symm
      clear hw
      subst hw1
      go_wp2_with fail
      refine (H2.out _).mono ?_
      rintro e w2 ⟨rfl, hp⟩
      have HP : Hid (∃ v', SC w2 p l st frm v' (ts ++ [⟨2, text, 0, frm⟩]) ∧ Kept p v v' w w2) := hp
      clear hp
      go_wp2
      go_ret
      exact ⟨rfl, HP.out⟩

theorem endP_5 (l : List UInt8) (frm at_ : Nat) : endP l 5 frm at_ = endNumR (sub l frm at_) frm := by
  unfold endP endNumR
  rw [if_neg (by decide), if_neg (by decide), if_pos rfl]
  cases numP (sub l frm at_) <;> rfl
theorem endP_6 (l : List UInt8) (frm at_ : Nat) : endP l 6 frm at_ = endNameR (sub l frm at_) frm := by
  unfold endP endNameR
  rw [if_neg (by decide), if_neg (by decide), if_neg (by decide), if_pos rfl]

set_option maxHeartbeats 4000000 in
theorem end_any (p : Nat) (l : List UInt8) (st frm at_ : Nat) (v : Value) (ts : List Tok) (w : World) (h : SC w p l st frm v ts) (hn : ts.length ≤ 100000) (hst : st ≤ 8) (hf : frm ≤ at_) (ha : at_ ≤ l.length) (hl : (l.length : Int) ≤ 9223372036854775807)
    (h5 : st = 5 → 0 < (sub l frm at_).length ∧ ((sub l frm at_).getD 0 0 = 45 → 1 < (sub l frm at_).length)) :
    Calls Try.prog 21 #[.pointer (some ⟨p, 0, none⟩), .int .i64 at_] w (EndPost p l st frm v ts (endP l st frm at_) w) := by
  have hc0 := h.s
  have hc1 := h.i
  have hc2 := h.f
  have HS : Hid (SC w p l st frm v ts) := h
  have i1 : (frm : Int) ≤ at_ := by omega
  have i2 : (at_ : Int) ≤ l.length := by omega
  have hsl : (sub l frm at_).length ≤ l.length := by unfold sub; simp; omega
  have HE : Hid ((⟨l.toArray⟩ : ByteArray).extract frm at_ = ⟨(sub l frm at_).toArray⟩) := S_extract l frm at_
  clear h
  obtain rfl | rfl | rfl | rfl | rfl | rfl | rfl | rfl | rfl : st = 0 ∨ st = 1 ∨ st = 2 ∨ st = 3 ∨ st = 4 ∨ st = 5 ∨ st = 6 ∨ st = 7 ∨ st = 8 := by omega
  case inr.inr.inr.inr.inr.inl =>
    have H1 : Hid (∀ k, Calls Try.prog 34 #[.pointer (some ⟨p, 0, none⟩), S (sub l frm at_)] (w.drewN k) (EndPost p l 5 frm v ts (endP l 5 frm at_) (w.drewN k))) := fun k => by
      rw [endP_5]
      exact endNumber_any p l _ 5 frm v ts _ (HS.out.drewN k) hn (h5 rfl).1 (h5 rfl).2 (by omega)
    generalize endP l 5 frm at_ = r at *
    clear h5 hst hsl
    go_enter Try.func21, Try.ntmps21
    go_wp2_with fail
    go_quiet (fail)
    go_wp2_with fail
    simp only [HE.out]
    refine (H1.out _).mono ?_
    rintro e w2 ⟨rfl, v', h1, h2⟩
    have HP : Hid (∃ v', SC w2 p l 5 frm v' (ts ++ r.2.toList) ∧ Kept p v v' w w2) := ⟨v', h1, (Kept.drewN p v w _).trans h2⟩
    clear h1 h2
    go_wp2
    go_ret
    exact ⟨rfl, HP.out⟩
  case inr.inr.inr.inr.inr.inr.inl =>
    have H1 : Hid (∀ k, Calls Try.prog 35 #[.pointer (some ⟨p, 0, none⟩), S (sub l frm at_)] (w.drewN k) (EndPost p l 6 frm v ts (endP l 6 frm at_) (w.drewN k))) := fun k => by
      rw [endP_6]
      exact endName_any p l _ 6 frm v ts _ (HS.out.drewN k) hn
    generalize endP l 6 frm at_ = r at *
    clear h5 hst hsl
    go_enter Try.func21, Try.ntmps21
    go_wp2_with fail
    go_quiet (fail)
    go_wp2_with fail
    simp only [HE.out]
    refine (H1.out _).mono ?_
    rintro e w2 ⟨rfl, v', h1, h2⟩
    have HP : Hid (∃ v', SC w2 p l 6 frm v' (ts ++ r.2.toList) ∧ Kept p v v' w w2) := ⟨v', h1, (Kept.drewN p v w _).trans h2⟩
    clear h1 h2
    go_wp2
    go_ret
    exact ⟨rfl, HP.out⟩
  case inr.inr.inr.inr.inr.inr.inr.inl =>
    have H1 : Hid (∀ k, Calls Try.prog 36 #[.pointer (some ⟨p, 0, none⟩), .int .i64 4, S (sub l frm at_), .int .i64 0] (w.drewN k) fun e w' => e = .returned (.tuple #[]) ∧ ∃ v', SC w' p l 7 frm v' (ts ++ [⟨4, sub l frm at_, 0, frm⟩]) ∧ Kept p v v' (w.drewN k) w') := fun k => lay_any p l _ 7 frm v ts 4 0 _ (HS.out.drewN k) hn
    clear h5 hst hsl
    show Calls Try.prog 21 #[.pointer (some ⟨p, 0, none⟩), .int .i64 at_] w (EndPost p l 7 frm v ts (0, some ⟨4, sub l frm at_, 0, frm⟩) w)
    go_enter Try.func21, Try.ntmps21
    go_wp2_with fail
    go_quiet (fail)
    go_wp2_with fail
    simp only [HE.out]
    refine (H1.out _).mono ?_
    rintro e w2 ⟨rfl, v', h1, h2⟩
    have HP : Hid (∃ v', SC w2 p l 7 frm v' (ts ++ [⟨4, sub l frm at_, 0, frm⟩]) ∧ Kept p v v' w w2) := ⟨v', h1, (Kept.drewN p v w _).trans h2⟩
    clear h1 h2
    go_wp2
    go_ret
    exact ⟨rfl, HP.out⟩
  all_goals (
    clear h5 hst hsl HE
    go_enter Try.func21, Try.ntmps21
    go_wp2_with fail
    go_quiet (fail)
    go_wp2
    go_ret
    exact ⟨rfl, v, by simpa [endP] using HS.out.drewN _, Kept.drewN p v w _⟩)

end Go.Proofs.Ythnnmgiihpdblab
