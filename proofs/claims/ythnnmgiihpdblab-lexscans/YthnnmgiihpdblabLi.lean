/- The program's scanner: one byte, and all. -/
import Derived.Test.YthnnmgiihpdblabLh
namespace Go.Proofs.Ythnnmgiihpdblab
open Go.RowKit

/-- The scanner's block with another state, or place. -/
theorem SC.setI {w : World} {p : Nat} {l : List UInt8} {st frm : Nat} {v : Value} {ts : List Tok} (h : SC w p l st frm v ts) (st' : Nat) : SC (w.setCell ⟨p, 1, none⟩ (.int .i64 st')) p l st' frm v ts := by
  have hgs : w.grownBy (w.setCell ⟨p, 1, none⟩ (.int .i64 st')) (some p) := ⟨rfl, rfl, rfl, by simp, fun k _ hk => Below.heap_setCell _ _ _ k (fun e => hk (by rw [e]))⟩
  refine ⟨?_, World.cell?_setCell_same _ _ _ h.i, ?_, ?_, ?_, ?_, ?_, h.own.kept hgs (.inr fun e => by have := (h.own.lt p e).1; omega)⟩
  · rw [World.cell?_setCell_other _ _ _ _ (by simp)]; exact h.s
  · rw [World.cell?_setCell_other _ _ _ _ (by simp)]; exact h.f
  · rw [World.cell?_setCell_other _ _ _ _ (by simp)]; exact h.t
  · rw [World.frozen?_setCell]; exact h.f1
  · rw [World.frozen?_setCell]; exact h.f2
  · rw [World.frozen?_setCell]; exact h.f3
theorem SC.setF {w : World} {p : Nat} {l : List UInt8} {st frm : Nat} {v : Value} {ts : List Tok} (h : SC w p l st frm v ts) (frm' : Nat) : SC (w.setCell ⟨p, 2, none⟩ (.int .i64 frm')) p l st frm' v ts := by
  have hgs : w.grownBy (w.setCell ⟨p, 2, none⟩ (.int .i64 frm')) (some p) := ⟨rfl, rfl, rfl, by simp, fun k _ hk => Below.heap_setCell _ _ _ k (fun e => hk (by rw [e]))⟩
  refine ⟨?_, ?_, World.cell?_setCell_same _ _ _ h.f, ?_, ?_, ?_, ?_, h.own.kept hgs (.inr fun e => by have := (h.own.lt p e).1; omega)⟩
  · rw [World.cell?_setCell_other _ _ _ _ (by simp)]; exact h.s
  · rw [World.cell?_setCell_other _ _ _ _ (by simp)]; exact h.i
  · rw [World.cell?_setCell_other _ _ _ _ (by simp)]; exact h.t
  · rw [World.frozen?_setCell]; exact h.f1
  · rw [World.frozen?_setCell]; exact h.f2
  · rw [World.frozen?_setCell]; exact h.f3
theorem Kept.set (p : Nat) (v : Value) (w : World) (o : Nat) (u : Value) : Kept p v v w (w.setCell ⟨p, o, none⟩ u) :=
  ⟨rfl, rfl, rfl, by simp, fun b _ hb _ => Below.heap_setCell _ _ _ b hb, .inl rfl⟩

/-- What one byte does: what is wrong, the state, the place, the tokens. -/
def takeR (l : List UInt8) (c : UInt8) (st frm at_ : Nat) (ts : List Tok) : Int × Nat × Nat × List Tok :=
  if (goOnP st c).2 then (0, (goOnP st c).1, frm, ts)
  else if (endP l st frm at_).1 = 0 then (0, beginP c, at_, ts ++ (endP l st frm at_).2.toList)
  else ((endP l st frm at_).1, st, frm, ts ++ (endP l st frm at_).2.toList)

def TakePost (p : Nat) (l : List UInt8) (v : Value) (r : Int × Nat × Nat × List Tok) (w : World) (e : Ending) (w' : World) : Prop :=
  e = .returned (.int .i64 r.1) ∧ ∃ v', SC w' p l r.2.1 r.2.2.1 v' r.2.2.2 ∧ Kept p v v' w w'

set_option maxHeartbeats 4000000 in
theorem take_any (p : Nat) (l : List UInt8) (st frm at_ : Nat) (v : Value) (ts : List Tok) (w : World) (h : SC w p l st frm v ts) (hn : ts.length ≤ 100000) (hst : st ≤ 8) (hf : frm ≤ at_) (ha : at_ < l.length) (hl : (l.length : Int) ≤ 9223372036854775807)
    (h5 : st = 5 → 0 < (sub l frm at_).length ∧ ((sub l frm at_).getD 0 0 = 45 → 1 < (sub l frm at_).length)) :
    Calls Try.prog 20 #[.pointer (some ⟨p, 0, none⟩), .int .i64 at_] w (TakePost p l v (takeR l (l.getD at_ 0) st frm at_ ts) w) := by
  have H1 : Hid (∀ w, Calls Try.prog 32 #[.int .i64 st, .int .u8 ((l.getD at_ 0).toNat : Int)] w fun e w' => e = .returned (.tuple #[.int .i64 ((goOnP st (l.getD at_ 0)).1 : Nat), .bool (goOnP st (l.getD at_ 0)).2]) ∧ w' = w) := fun w => goOn_any st _ w hst
  have H2 : Hid (Calls Try.prog 21 #[.pointer (some ⟨p, 0, none⟩), .int .i64 at_] w (EndPost p l st frm v ts (endP l st frm at_) w)) := end_any p l st frm at_ v ts w h hn hst hf (by omega) hl h5
  have H3 : Hid (∀ w, Calls Try.prog 33 #[.int .u8 ((l.getD at_ 0).toNat : Int)] w fun e w' => e = .returned (.int .i64 (beginP (l.getD at_ 0) : Nat)) ∧ w' = w) := fun w => begin_any _ w
  have hcs : ({ data := l.toArray } : ByteArray)[at_]'ha = l.getD at_ 0 := (getD_lt ha).symm
  have ha' : (at_ : Int) < l.length := by omega
  have hc0 := h.s
  have hc1 := h.i
  have hf1 := h.f1
  have HS : Hid (SC w p l st frm v ts) := h
  unfold takeR
  clear h5 h
  generalize l.getD at_ 0 = c at *
  generalize goOnP st c = g at *
  generalize endP l st frm at_ = r at *
  generalize beginP c = b at *
  obtain ⟨g1, g2⟩ := g
  cases g2
  · rw [if_neg (by simp)]
    by_cases hr : r.1 = 0
    · rw [if_pos hr]
      obtain ⟨r1, r2⟩ := r
      have hr1 : r1 = 0 := hr
      subst hr1
      clear hr
      go_enter Try.func20, Try.ntmps20
      go_wp2_with fail
      refine (H1.out _).mono ?_
      rintro e w1 ⟨rfl, hw⟩
      have hw1 := hw.symm
      clear hw
      subst hw1
      go_wp2_with fail
      refine H2.out.mono ?_
      rintro e w2 ⟨rfl, v', h1, h2⟩
      have hk0 := h1.i
      have hk1 := h1.f
      have hk2 := h1.f1
      have hk3 := h1.f2
      have HP : Hid (SC w2 p l st frm v' (ts ++ r2.toList)) := h1
      have HQ : Hid (Kept p v v' w w2) := h2
      clear h1 h2 hc0 hc1 hf1
      go_wp2_with fail
      refine (H3.out _).mono ?_
      rintro e w3 ⟨rfl, hw⟩
      have hw1 := hw.symm
      clear hw
      subst hw1
      go_wp2
      go_ret
      exact ⟨rfl, v', (HP.out.setI b).setF at_, (HQ.out.trans (Kept.set p v' _ 1 _)).trans (Kept.set p v' _ 2 _)⟩
    · rw [if_neg hr]
      obtain ⟨r1, r2⟩ := r
      have hr1 : (r1 == 0) = false := by simpa using hr
      clear hr
      go_enter Try.func20, Try.ntmps20
      go_wp2_with fail
      refine (H1.out _).mono ?_
      rintro e w1 ⟨rfl, hw⟩
      have hw1 := hw.symm
      clear hw
      subst hw1
      go_wp2_with fail
      refine H2.out.mono ?_
      rintro e w2 ⟨rfl, v', h1, h2⟩
      have HP : Hid (SC w2 p l st frm v' (ts ++ r2.toList)) := h1
      have HQ : Hid (Kept p v v' w w2) := h2
      clear h1 h2 hc0 hc1 hf1
      go_wp2
      go_ret
      exact ⟨rfl, v', HP.out, HQ.out⟩
  · rw [if_pos rfl]
    go_enter Try.func20, Try.ntmps20
    go_wp2_with fail
    refine (H1.out _).mono ?_
    rintro e w1 ⟨rfl, hw⟩
    have hw1 := hw.symm
    clear hw
    subst hw1
    go_wp2
    go_ret
    exact ⟨rfl, v, HS.out.setI g1, Kept.set p v w 1 _⟩

end Go.Proofs.Ythnnmgiihpdblab
