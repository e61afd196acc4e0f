/- The program's Reader: a truth, what is left, what was wrong, Fail. message: blocks; the Writer beside blocks that it leaves alone. message: the fields of a message, laid down. message: the fields of a message, laid down. message: the fields of a message, laid down. message: the fields of a message, laid down. -/
import Derived.Test.YtfcbjcebkahehaaGreatDoorZaf
import Derived.Test.YtfcbjcebkahehaaGreatDoorZag
import Derived.Test.YtfcbjcebkahehaaGreatDoorZai
import Derived.Deep.RegionHeld3
import Derived.Deep.RegionLaw
import Derived.Lib.MinMax
namespace Go.Proofs.YtfcbjcebkahehaaGreatDoor
open Go.RowKit
/-- a truth -/
def rdBool (l : List UInt8) : Rd Bool := if (rdWord l).wrong ≠ 0 then ⟨(rdWord l).wrong, 4, false⟩ else if 1 < (rdWord l).val then ⟨25, 4, false⟩ else ⟨0, 4, (rdWord l).val == 1⟩

theorem rbool_A {Q : World → Prop} (p : Nat) (n : Int) (x : Value) (s : ByteArray) (w : World) (h0 : w.cell? ⟨p, 0, none⟩ = some (.string s))
    (H1 : Hid (Calls Tryz.prog 158 #[.string s] w fun e w' => e = .returned (.tuple #[.int .u32 n, .iface 244 x]) ∧ Below w.heap.size w w'))
    (H3 : Hid (∀ w1, Below w.heap.size w w1 → Calls Tryz.prog 159 #[.pointer (some ⟨p, 0, none⟩), .int .i64 4, .iface 244 x] w1 fun e w' => e = .returned (.bool false) ∧ Q w')) :
    Calls Tryz.prog 119 #[.pointer (some ⟨p, 0, none⟩)] w fun e w' => e = .returned (.bool false) ∧ Q w' := by
  have q := eql_iface_rd x
  go_enter Tryz.func119, Tryz.ntmps119
  go_wp2_with fail
  refine H1.out.mono ?_
  rintro e w1 ⟨rfl, hB⟩
  have HB : Hid (Below w.heap.size w w1) := hB
  clear hB
  go_wp2_with fail
  refine (H3.out _ HB.out).mono ?_
  rintro e w2 ⟨rfl, hQ⟩
  have HQ : Hid (Q w2) := hQ
  clear hQ
  go_wp2
  go_ret
  exact ⟨rfl, HQ.out⟩
theorem rbool_B {Q : World → Prop} (p : Nat) (n : Int) (s : ByteArray) (w : World) (h0 : w.cell? ⟨p, 0, none⟩ = some (.string s)) (hn : 1 < n)
    (H1 : Hid (Calls Tryz.prog 158 #[.string s] w fun e w' => e = .returned (.tuple #[.int .u32 n, .nilIface]) ∧ Below w.heap.size w w'))
    (H3 : Hid (∀ w1, Below w.heap.size w w1 → Calls Tryz.prog 159 #[.pointer (some ⟨p, 0, none⟩), .int .i64 4, .iface 244 (.agg #[.int .i64 25])] w1 fun e w' => e = .returned (.bool false) ∧ Q w')) :
    Calls Tryz.prog 119 #[.pointer (some ⟨p, 0, none⟩)] w fun e w' => e = .returned (.bool false) ∧ Q w' := by
  go_enter Tryz.func119, Tryz.ntmps119
  go_wp2_with fail
  refine H1.out.mono ?_
  rintro e w1 ⟨rfl, hB⟩
  have HB : Hid (Below w.heap.size w w1) := hB
  clear hB
  go_wp2_with fail
  refine (H3.out _ HB.out).mono ?_
  rintro e w2 ⟨rfl, hQ⟩
  have HQ : Hid (Q w2) := hQ
  clear hQ
  go_wp2
  go_ret
  exact ⟨rfl, HQ.out⟩
theorem rbool_C {Q : World → Prop} (p : Nat) (n : Int) (b : Bool) (s : ByteArray) (w : World) (h0 : w.cell? ⟨p, 0, none⟩ = some (.string s)) (hn : ¬ 1 < n)
    (H1 : Hid (Calls Tryz.prog 158 #[.string s] w fun e w' => e = .returned (.tuple #[.int .u32 n, .nilIface]) ∧ Below w.heap.size w w'))
    (H3 : Hid (∀ w1, Below w.heap.size w w1 → Calls Tryz.prog 159 #[.pointer (some ⟨p, 0, none⟩), .int .i64 4, .nilIface] w1 fun e w' => e = .returned (.bool b) ∧ Q w')) :
    Calls Tryz.prog 119 #[.pointer (some ⟨p, 0, none⟩)] w fun e w' => e = .returned (.bool (if b then n == 1 else false)) ∧ Q w' := by
  cases b
  · go_enter Tryz.func119, Tryz.ntmps119
    go_wp2_with fail
    refine H1.out.mono ?_
    rintro e w1 ⟨rfl, hB⟩
    have HB : Hid (Below w.heap.size w w1) := hB
    clear hB
    go_wp2_with fail
    refine (H3.out _ HB.out).mono ?_
    rintro e w2 ⟨rfl, hQ⟩
    have HQ : Hid (Q w2) := hQ
    clear hQ
    go_wp2
    go_ret
    exact ⟨rfl, HQ.out⟩
  · go_enter Tryz.func119, Tryz.ntmps119
    go_wp2_with fail
    refine H1.out.mono ?_
    rintro e w1 ⟨rfl, hB⟩
    have HB : Hid (Below w.heap.size w w1) := hB
    clear hB
    go_wp2_with fail
    refine (H3.out _ HB.out).mono ?_
    rintro e w2 ⟨rfl, hQ⟩
    have HQ : Hid (Q w2) := hQ
    clear hQ
    go_wp2
    go_ret
    exact ⟨rfl, HQ.out⟩

theorem rbool_any (p : Nat) (l : List UInt8) (E : Int) (w : World) (h : RR w p l E) : Calls Tryz.prog 119 #[.pointer (some ⟨p, 0, none⟩)] w (RPost p l E false rdBool (fun b => .bool b) w) := by
  have hf := frontWord_any l w
  by_cases hw : (rdWord l).wrong = 0
  · rw [hw] at hf
    have h4 := (rdWord_size l).2.1 hw
    by_cases hv : 1 < (rdWord l).val
    · refine (rbool_B (Q := fun w' => RR w' p l (if E = 0 then 25 else E) ∧ Sole p w w') p _ _ w h.l (by omega) hf (fun w1 hB => tk_bad p E 25 l w h (by decide) 4 w1 hB)).mono ?_
      exact fun e w' hp => RPost.bad (F := 25) (by unfold rdBool; rw [if_neg (by simp [hw]), if_pos hv]) (by decide) hp
    · obtain ⟨b, hb⟩ : ∃ b, decide (E = 0) = b := ⟨_, rfl⟩
      refine (rbool_C (Q := fun w' => RR w' p (if b then l.drop 4 else l) E ∧ Sole p w w') p _ b _ w h.l (by omega) hf (fun w1 hB => tk_good p 4 E l b w h hb h4 w1 hB)).mono ?_
      intro e w' hp
      refine RPost.good (k := 4) (x := (rdWord l).val == 1) b hb (by unfold rdBool; rw [if_neg (by simp [hw]), if_neg hv]) ?_
      have e1 : (((rdWord l).val : Int) == 1) = ((rdWord l).val == 1) := by
        rw [Bool.eq_iff_iff]; simp only [beq_iff_eq]; omega
      rw [e1] at hp; exact hp
  · rw [trW_ne hw] at hf
    have ht := tk_bad p E _ l w h hw 4
    rw [trW_ne hw] at ht
    refine (rbool_A (Q := fun w' => RR w' p l (if E = 0 then (rdWord l).wrong else E) ∧ Sole p w w') p _ _ _ w h.l hf ht).mono ?_
    exact fun e w' hp => RPost.bad (F := (rdWord l).wrong) (by unfold rdBool; rw [if_pos hw]) hw hp
def rdRest (l : List UInt8) : Rd (List UInt8) := ⟨0, l.length, l⟩

theorem rrest_B {Q : World → Prop} (p : Nat) (b : Bool) (s : ByteArray) (w : World) (h0 : w.cell? ⟨p, 0, none⟩ = some (.string s))
    (H3 : Hid (∀ w1, Below w.heap.size w w1 → Calls Tryz.prog 159 #[.pointer (some ⟨p, 0, none⟩), .int .i64 s.size, .nilIface] w1 fun e w' => e = .returned (.bool b) ∧ Q w'))
    (H4 : Hid (∀ w, Calls Tryz.prog 45 #[.string s] w fun e w' => e = .returned (.string s) ∧ Below w.heap.size w w'))
    (HQB : Hid (∀ a c, Q a → Below a.heap.size a c → Q c)) :
    Calls Tryz.prog 125 #[.pointer (some ⟨p, 0, none⟩)] w fun e w' => e = .returned (.string (if b then s else ⟨#[]⟩)) ∧ Q w' := by
  have HB : Hid (Below w.heap.size w w) := Below.refl _ _
  cases b
  · go_enter Tryz.func125, Tryz.ntmps125
    go_wp2_with fail
    refine (H3.out _ HB.out).mono ?_
    rintro e w2 ⟨rfl, hQ⟩
    have HQ : Hid (Q w2) := hQ
    clear hQ
    go_wp2
    go_ret
    exact ⟨rfl, HQ.out⟩
  · go_enter Tryz.func125, Tryz.ntmps125
    go_wp2_with fail
    refine (H3.out _ HB.out).mono ?_
    rintro e w2 ⟨rfl, hQ⟩
    have HQ : Hid (Q w2) := hQ
    clear hQ
    go_wp2_with fail
    refine (H4.out _).mono ?_
    rintro e w3 ⟨rfl, hB3⟩
    have HQ3 : Hid (Q w3) := HQB.out _ _ HQ.out hB3
    clear hB3
    go_wp2
    go_ret
    exact ⟨rfl, HQ3.out⟩
theorem rrest_any (p : Nat) (l : List UInt8) (E : Int) (w : World) (h : RR w p l E) (hl : l.length ≤ 281474976710656) :
    Calls Tryz.prog 125 #[.pointer (some ⟨p, 0, none⟩)] w (RPost p l E [] rdRest (fun s => Bs s) w) := by
  obtain ⟨b, hb⟩ : ∃ b, decide (E = 0) = b := ⟨_, rfl⟩
  refine (rrest_B (Q := fun w' => RR w' p (if b then l.drop l.length else l) E ∧ Sole p w w') p b _ w h.l (fun w1 hB => by rw [Bs_size]; exact tk_good p l.length E l b w h hb (Nat.le_refl _) w1 hB) (clone_rd l hl) RR.sole_below).mono ?_
  intro e w' hp
  refine RPost.good (k := l.length) (x := l) b hb rfl ?_
  refine ⟨?_, hp.2⟩
  rw [hp.1]
  cases b <;> rfl

theorem rleft_any (p : Nat) (s : ByteArray) (w : World) (h0 : w.cell? ⟨p, 0, none⟩ = some (.string s)) : Calls Tryz.prog 245 #[.pointer (some ⟨p, 0, none⟩)] w fun e w' => e = .returned (.int .i64 s.size) ∧ w' = w := by
  go_enter Tryz.func245, Tryz.ntmps245
  go_wp2
  go_ret
  exact ⟨rfl, rfl⟩

theorem rwrong_any (p : Nat) (l : List UInt8) (E : Int) (w : World) (h : RR w p l E) (hE : ErrT w) : Calls Tryz.prog 128 #[.pointer (some ⟨p, 0, none⟩)] w fun e w' => e = .returned (.int .i64 E) ∧ Below w.heap.size w w' := by
  have H1 : Hid (Calls Tryz.prog 135 #[.pointer (some ⟨p, 1, none⟩)] w fun r w' => r = .returned (.int .i64 E) ∧ Below w.heap.size w w') := number_any ⟨p, 1, none⟩ E w hE h.e
  clear h hE
  go_enter Tryz.func128, Tryz.ntmps128
  go_wp2_with fail
  refine H1.out.mono ?_
  rintro e w1 ⟨rfl, hB⟩
  have HB : Hid (Below w.heap.size w w1) := hB
  clear hB
  go_wp2
  go_ret
  exact ⟨rfl, HB.out⟩

/-- Fail: what was wrong first stays -/
def Rs.fail (st : Rs) (F : Int) : Rs := ⟨st.l, if st.e = 0 then F else st.e⟩
theorem rfail_first (p : Nat) (F : Int) (l : List UInt8) (w : World) (h : RR w p l 0) :
    Calls Tryz.prog 189 #[.pointer (some ⟨p, 0, none⟩), .int .i64 F] w fun e w' => e = .returned (.tuple #[]) ∧ ∃ k, w' = (w.drewN k).setCell ⟨p, 1, none⟩ (trW F) := by
  have h2 := h.e
  have h5 := h.f1
  have H1 : Hid (∀ w, Calls Tryz.prog 154 #[.int .i64 F] w fun r w' => r = .returned (trW F) ∧ w' = w) := fun w => faultOf_any F w
  have H2 : Hid (∀ k, Calls Tryz.prog 153 #[.pointer (some ⟨p, 1, none⟩), trW F] (w.drewN k) fun r w' => r = .returned (.tuple #[]) ∧ w' = (w.drewN k).setCell ⟨p, 1, none⟩ (trW F)) := fun k => note_first_rd ⟨p, 1, none⟩ F (w.drewN k) h2 h5
  clear h h2 h5
  go_enter Tryz.func189, Tryz.ntmps189
  go_wp2_with fail
  go_region_with (first | (go_at_call 154; refine (H1.out _).mono ?_; rintro e w' ⟨rfl, rfl⟩) | (go_at_call 153; refine (H2.out 1).mono ?_; rintro e w' ⟨rfl, rfl⟩))
  go_wp2
  first | go_end0 | refine bodyPost_ret (results_none rfl _ _ _) rfl ?_
  exact ⟨rfl, 1, rfl⟩
theorem rfail_later (p : Nat) (E F : Int) (l : List UInt8) (w : World) (h : RR w p l E) (hE : E ≠ 0) :
    Calls Tryz.prog 189 #[.pointer (some ⟨p, 0, none⟩), .int .i64 F] w fun e w' => e = .returned (.tuple #[]) ∧ ∃ k, w' = w.drewN k := by
  have h2 := h.e
  unfold trW at h2
  rw [if_neg hE] at h2
  have H1 : Hid (∀ w, Calls Tryz.prog 154 #[.int .i64 F] w fun r w' => r = .returned (trW F) ∧ w' = w) := fun w => faultOf_any F w
  have H2 : Hid (∀ k, Calls Tryz.prog 153 #[.pointer (some ⟨p, 1, none⟩), trW F] (w.drewN k) fun r w' => r = .returned (.tuple #[]) ∧ w' = w.drewN k) := fun k => note_later_rd ⟨p, 1, none⟩ (trW F) _ (w.drewN k) h2
  clear h h2
  go_enter Tryz.func189, Tryz.ntmps189
  go_wp2_with fail
  go_region_with (first | (go_at_call 154; refine (H1.out _).mono ?_; rintro e w' ⟨rfl, rfl⟩) | (go_at_call 153; refine (H2.out 1).mono ?_; rintro e w' ⟨rfl, rfl⟩))
  go_wp2
  first | go_end0 | refine bodyPost_ret (results_none rfl _ _ _) rfl ?_
  exact ⟨rfl, 1, rfl⟩
theorem RR.drewN {w : World} {p : Nat} {l : List UInt8} {E : Int} (h : RR w p l E) (k : Nat) : RR (w.drewN k) p l E := ⟨h.l, h.e, h.f0, h.f1⟩
theorem rfail_any (p : Nat) (F : Int) (st : Rs) (w : World) (h : RR w p st.l st.e) :
    Calls Tryz.prog 189 #[.pointer (some ⟨p, 0, none⟩), .int .i64 F] w fun e w' => e = .returned (.tuple #[]) ∧ RR w' p (st.fail F).l (st.fail F).e ∧ Sole p w w' := by
  obtain ⟨l, E⟩ := st
  unfold Rs.fail
  by_cases hE : E = 0
  · subst hE
    refine (rfail_first p F l w h).mono ?_
    rintro e w' ⟨rfl, k, rfl⟩
    exact ⟨rfl, (RR.drewN h k).setE F, (Sole.drewN p w k).trans (Sole.setCell _ _ _)⟩
  · refine (rfail_later p E F l w h hE).mono ?_
    rintro e w' ⟨rfl, k, rfl⟩
    refine ⟨rfl, ?_, Sole.drewN p w k⟩
    show RR _ p l (if E = 0 then F else E)
    rw [if_neg hE]
    exact RR.drewN h k
end Go.Proofs.YtfcbjcebkahehaaGreatDoor
namespace Go.Proofs.YtfcbjcebkahehaaGreatDoor
open Go.RowKit
theorem Bk.of {w w' : World} {b : Nat} {cs : List Value} {t : TypeId} (h : Bk w b cs t) (hb : w'.heap[b]? = w.heap[b]?) : Bk w' b cs t := hb.trans h
/-- what stays: the blocks F -/
structure Fr (F : Nat → Prop) (w w' : World) : Prop where
  os : w'.os = w.os
  tape : w'.tape = w.tape
  output : w'.output = w.output
  size : w.heap.size ≤ w'.heap.size
  block : ∀ b, F b → w'.heap[b]? = w.heap[b]?
theorem Fr.refl (F : Nat → Prop) (w : World) : Fr F w w := ⟨rfl, rfl, rfl, Nat.le_refl _, fun _ _ => rfl⟩
theorem Fr.trans {F : Nat → Prop} {a b c : World} (h : Fr F a b) (k : Fr F b c) : Fr F a c := ⟨k.os.trans h.os, k.tape.trans h.tape, k.output.trans h.output, Nat.le_trans h.size k.size, fun i hi => (k.block i hi).trans (h.block i hi)⟩
theorem Fr.mono {F G : Nat → Prop} {a b : World} (h : Fr F a b) (hG : ∀ i, G i → F i) : Fr G a b := ⟨h.os, h.tape, h.output, h.size, fun i hi => h.block i (hG i hi)⟩
theorem Fr.of_below {F : Nat → Prop} {a b : World} {B : Nat} (h : Below B a b) (hF : ∀ i, F i → i < B) : Fr F a b := ⟨h.os, h.tape, h.output, h.size, fun i hi => h.block i (hF i hi)⟩
theorem Fr.below {F : Nat → Prop} {a b : World} {B : Nat} (h : Fr F a b) (hF : ∀ i, i < B → F i) : Below B a b := ⟨h.os, h.tape, h.output, h.size, fun i hi => h.block i (hF i hi)⟩
theorem Fr.alloc (F : Nat → Prop) (w : World) (o : Obj) (hF : ∀ i, F i → i < w.heap.size) : Fr F w (w.alloc o) := Fr.of_below (below_new w o) hF
/-- a Writer whose bytes lie in none of the blocks F: nothing was wrong just if P, and then l was laid down -/
def WrK (F : Nat → Prop) (w : World) (p : Nat) (M : Int) (P : Prop) (l : List UInt8) : Prop :=
  ∃ v S E, PW w p v M (Lib.strCells S) E ∧ (S.size : Int) ≤ M ∧ (E = 0 ↔ P) ∧ (P → S = ⟨l.toArray⟩) ∧ ∀ b, v.ownBlock = some b → ¬ F b
/-- blocks that are there, and not the Writer's -/
def Ok (F : Nat → Prop) (w : World) (p : Nat) : Prop := ∀ b, F b → b < w.heap.size ∧ b ≠ p
def KPost (F : Nat → Prop) (p : Nat) (M : Int) (P : Prop) (l : List UInt8) (w : World) (e : Ending) (w' : World) : Prop :=
  e = .returned (.tuple #[]) ∧ WrK F w' p M P l ∧ Fr F w w'
theorem WrK.lt {F : Nat → Prop} {w : World} {p : Nat} {M : Int} {P : Prop} {l : List UInt8} (h : WrK F w p M P l) : p < w.heap.size := by
  obtain ⟨v, S, E, h1, _⟩ := h
  exact h1.lt
theorem WrK.iff {F : Nat → Prop} {w : World} {p : Nat} {M : Int} {P Q : Prop} {l m : List UInt8} (h : WrK F w p M P l) (hq : Q ↔ P) (hl : P → l = m) : WrK F w p M Q m := by
  obtain ⟨v, S, E, h1, h2, h3, h4, h5⟩ := h
  exact ⟨v, S, E, h1, h2, h3.trans hq.symm, fun q => by rw [← hl (hq.1 q)]; exact h4 (hq.1 q), h5⟩
theorem WrK.below {F : Nat → Prop} {w w' : World} {p : Nat} {M : Int} {P : Prop} {l : List UInt8} (h : WrK F w p M P l) (hB : Below w.heap.size w w') : WrK F w' p M P l := by
  obtain ⟨v, S, E, h1, h2⟩ := h
  exact ⟨v, S, E, h1.below hB, h2⟩
theorem WrK.less {F G : Nat → Prop} {w : World} {p : Nat} {M : Int} {P : Prop} {l : List UInt8} (h : WrK F w p M P l) (hG : ∀ b, G b → F b) : WrK G w p M P l := by
  obtain ⟨v, S, E, h1, h2, h3, h4, h5⟩ := h
  exact ⟨v, S, E, h1, h2, h3, h4, fun b e hb => h5 b e (hG b hb)⟩
/-- blocks that were not there are others -/
theorem WrK.more {F G : Nat → Prop} {w w' : World} {p : Nat} {M : Int} {P : Prop} {l : List UInt8} (h : WrK F w p M P l) (hB : Below w.heap.size w w') (hG : ∀ b, G b → F b ∨ w.heap.size ≤ b) : WrK G w' p M P l := by
  obtain ⟨v, S, E, h1, h2, h3, h4, h5⟩ := h
  refine ⟨v, S, E, h1.below hB, h2, h3, h4, fun b e hb => ?_⟩
  rcases hG b hb with h6 | h6
  · exact h5 b e h6
  · have := (h1.own.lt b e).2
    omega
theorem WrK.toP {F : Nat → Prop} {w : World} {p : Nat} {M : Int} {P : Prop} {l : List UInt8} (h : WrK F w p M P l) : WrP w p M P l := by
  obtain ⟨v, S, E, h1, h2, h3, h4, _⟩ := h
  exact ⟨v, S, E, h1, h2, h3, h4⟩
theorem Ok.below {F : Nat → Prop} {w w' : World} {p : Nat} (h : Ok F w p) (hz : w.heap.size ≤ w'.heap.size) : Ok F w' p := fun b hb => ⟨Nat.lt_of_lt_of_le (h b hb).1 hz, (h b hb).2⟩
theorem kept_fr {F : Nat → Prop} {p : Nat} {v v' : Value} {w w' : World} (hF : Ok F w p) (hv : ∀ b, v.ownBlock = some b → ¬ F b) (k : Kept p v v' w w') : Fr F w w' ∧ ∀ b, v'.ownBlock = some b → ¬ F b := by
  refine ⟨⟨k.os, k.tape, k.output, k.size, fun b hb => k.block b (hF b hb).1 (hF b hb).2 (fun e => hv b e.symm hb)⟩, fun b e hb => ?_⟩
  rcases k.row with h | ⟨g, h1, h2⟩
  · exact hv b (h ▸ e) hb
  · rw [h2] at e
    cases e
    have := (hF b hb).1
    omega
theorem kpost_laid {F : Nat → Prop} {p : Nat} {M : Int} {P : Prop} {l t : List UInt8} {v : Value} {S s : ByteArray} {E : Int} {w w' : World} {e : Ending} (hF : Ok F w p) (hv : ∀ b, v.ownBlock = some b → ¬ F b) (hz : (S.size : Int) ≤ M) (hP : E = 0 ↔ P) (hS : P → S = ⟨l.toArray⟩)
    (hs : s = ⟨t.toArray⟩) (hr : P → (l.length : Int) + t.length ≤ M) (hw : PWrote p v M (rlay M S E s) w e w') : KPost F p M P (l ++ t) w e w' := by
  obtain ⟨h1, v', h2, h3⟩ := hw
  obtain ⟨k1, k2⟩ := kept_fr hF hv h3
  refine ⟨h1, ?_, k1⟩
  subst hs
  by_cases hp : P
  · have e0 := hP.2 hp
    have eS := hS hp
    subst eS e0
    have hfit := hr hp
    have er : rlay M ⟨l.toArray⟩ 0 ⟨t.toArray⟩ = (⟨(l ++ t).toArray⟩, 0) := by
      unfold rlay
      rw [if_neg (by simp), if_neg (by rw [ba_size, ba_size]; omega), bapp]
    rw [er] at h2
    exact ⟨v', _, _, h2, by show (((⟨(l ++ t).toArray⟩ : ByteArray).size : Nat) : Int) ≤ M; rw [ba_size, List.length_append]; omega, by simp [hp], fun _ => rfl, k2⟩
  · have e0 : E ≠ 0 := fun x => hp (hP.1 x)
    have er : rlay M S E ⟨t.toArray⟩ = (S, E) := by unfold rlay; rw [if_pos e0]
    rw [er] at h2
    exact ⟨v', _, _, h2, hz, hP, fun q => absurd q hp, k2⟩
theorem kpost_fail {F : Nat → Prop} {p : Nat} {M : Int} {P Q : Prop} {l : List UInt8} {v : Value} {S : ByteArray} {E N : Int} {w w' : World} {e : Ending} (hF : Ok F w p) (hv : ∀ b, v.ownBlock = some b → ¬ F b) (hz : (S.size : Int) ≤ M) (hN : N ≠ 0) (hQ : ¬ Q)
    (hw : PWrote p v M (S, firstE E N) w e w') : KPost F p M (P ∧ Q) l w e w' := by
  obtain ⟨h1, v', h2, h3⟩ := hw
  obtain ⟨k1, k2⟩ := kept_fr hF hv h3
  refine ⟨h1, ⟨v', _, _, h2, hz, ?_, fun q => absurd q.2 hQ, k2⟩, k1⟩
  constructor
  · intro x
    have x' : firstE E N = 0 := x
    unfold firstE at x'
    split at x'
    · exact absurd x' hN
    · rename_i h0; exact absurd x' h0
  · exact fun q => absurd q.2 hQ
theorem KPost.more {F : Nat → Prop} {p : Nat} {M : Int} {P Q : Prop} {l : List UInt8} {w w' : World} {e : Ending} (hq : Q) (h : KPost F p M P l w e w') : KPost F p M (P ∧ Q) l w e w' :=
  ⟨h.1, h.2.1.iff ⟨fun x => x.1, fun x => ⟨x, hq⟩⟩ fun _ => rfl, h.2.2⟩
theorem k_uint (F : Nat → Prop) (p : Nat) (n M : Int) (P : Prop) (l : List UInt8) (w : World) (h : WrK F w p M P l) (hF : Ok F w p) (hM0 : 0 ≤ M) (hM1 : M ≤ 2147483647) (hr : P → isW n → (l.length : Int) + 4 ≤ M) :
    Calls Tryz.prog 116 #[.pointer (some ⟨p, 0, none⟩), .int .i64 n] w (KPost F p M (P ∧ isW n) (l ++ nbL 4 n.toNat) w) := by
  obtain ⟨v, S, E, h1, h2, h3, h4, h5⟩ := h
  by_cases hn : isW n
  · refine (puint_ok p v n M E S w h1 hM0 (by omega) (by omega) (by rw [isW_dec]; exact decide_eq_true hn)).mono fun e w' hp => ?_
    have e4 := byL_nbL 4 n hn.1 (by have := hn.2; simp; omega)
    exact (kpost_laid (t := nbL 4 n.toNat) hF h5 h2 h3 h4 (by rw [e4]) (by rw [nbL_len]; exact fun q => hr q hn) hp).more hn
  · refine (puint_bad p v n M E S w h1 (by rw [isW_dec]; exact decide_eq_false hn)).mono fun e w' hp => ?_
    exact kpost_fail hF h5 h2 (by decide) hn hp
theorem k_bool (F : Nat → Prop) (p : Nat) (x : Bool) (M : Int) (P : Prop) (l : List UInt8) (w : World) (h : WrK F w p M P l) (hF : Ok F w p) (hM0 : 0 ≤ M) (hM1 : M ≤ 2147483647) (hr : P → (l.length : Int) + 4 ≤ M) :
    Calls Tryz.prog 118 #[.pointer (some ⟨p, 0, none⟩), .bool x] w (KPost F p M (P ∧ True) (l ++ nbL 4 (if x then 1 else 0)) w) := by
  obtain ⟨v, S, E, h1, h2, h3, h4, h5⟩ := h
  cases x
  · refine (pbool_false p v M E S w h1 hM0 (by omega) (by omega)).mono fun e w' hp => ?_
    have e4 := byL_nbL 4 0 (by decide) (by decide)
    exact (kpost_laid (t := nbL 4 0) hF h5 h2 h3 h4 (by rw [e4]; rfl) (by rw [nbL_len]; exact hr) hp).more trivial
  · refine (pbool_true p v M E S w h1 hM0 (by omega) (by omega)).mono fun e w' hp => ?_
    have e4 := byL_nbL 4 1 (by decide) (by decide)
    exact (kpost_laid (t := nbL 4 1) hF h5 h2 h3 h4 (by rw [e4]; rfl) (by rw [nbL_len]; exact hr) hp).more trivial
theorem k_opaque (F : Nat → Prop) (p : Nat) (m M : Int) (s : List UInt8) (P : Prop) (l : List UInt8) (w : World) (h : WrK F w p M P l) (hF : Ok F w p) (hM0 : 0 ≤ M) (hM1 : M ≤ 2147483647) (hm0 : 0 ≤ m) (hm1 : m ≤ 4294967295) (hr : P → (s.length : Int) ≤ m → (l.length : Int) + (4 + (s.length + pads s.length : Nat)) ≤ M) (hs : m ≤ 1000) :
    Calls Tryz.prog 122 #[.pointer (some ⟨p, 0, none⟩), .int .i64 m, .string ⟨s.toArray⟩] w (KPost F p M (P ∧ (s.length : Int) ≤ m) (l ++ (nbL 4 s.length ++ (s ++ padB s.length))) w) := by
  obtain ⟨v, S, E, h1, h2, h3, h4, h5⟩ := h
  have hmw : (decide (0 ≤ m) && decide (m ≤ 4294967295)) = true := by rw [decide_eq_true hm0, decide_eq_true hm1]; rfl
  by_cases hn : (s.length : Int) ≤ m
  · refine (popaque_ok p v m M E S ⟨s.toArray⟩ w h1 hM0 (by omega) (by have := ba_size s; omega) hmw (by have := ba_size s; omega)).mono fun e w' hp => ?_
    have e4 : byL 4 (s.length : Int) = nbL 4 s.length := by
      have := byL_nbL 4 (s.length : Int) (by omega) (by simp; omega)
      rwa [Int.toNat_natCast] at this
    refine (kpost_laid (P := P) (t := nbL 4 s.length ++ (s ++ padB s.length)) hF h5 h2 h3 h4 ?_ ?_ hp).more hn
    · rw [ba_size, e4, padL_padB, bapp, bapp, List.append_assoc]
    · intro q
      have := hr q hn
      rw [List.length_append, List.length_append, nbL_len, padB_len]
      omega
  · refine (popaque_long p v m M E S ⟨s.toArray⟩ w h1 hmw (by have := ba_size s; omega)).mono fun e w' hp => ?_
    exact kpost_fail hF h5 h2 (by decide) hn hp
theorem k_count (F : Nat → Prop) (p : Nat) (m M n : Int) (P : Prop) (l : List UInt8) (w : World) (h : WrK F w p M P l) (hF : Ok F w p) (hM0 : 0 ≤ M) (hM1 : M ≤ 2147483647) (hm0 : 0 ≤ m) (hm1 : m ≤ 4294967295) (hr : P → (0 ≤ n ∧ n ≤ m) → (l.length : Int) + 4 ≤ M) :
    Calls Tryz.prog 120 #[.pointer (some ⟨p, 0, none⟩), .int .i64 m, .int .i64 n] w (KPost F p M (P ∧ (0 ≤ n ∧ n ≤ m)) (l ++ nbL 4 n.toNat) w) := by
  obtain ⟨v, S, E, h1, h2, h3, h4, h5⟩ := h
  have hmw : (decide (0 ≤ m) && decide (m ≤ 4294967295)) = true := by rw [decide_eq_true hm0, decide_eq_true hm1]; rfl
  by_cases h0 : 0 ≤ n
  · by_cases hn : n ≤ m
    · refine (pcount_ok p v m n M E S w h1 hM0 (by omega) (by omega) hmw h0 hn).mono fun e w' hp => ?_
      have e4 := byL_nbL 4 n h0 (by simp; omega)
      exact (kpost_laid (t := nbL 4 n.toNat) hF h5 h2 h3 h4 (by rw [e4]) (by rw [nbL_len]; exact fun q => hr q ⟨h0, hn⟩) hp).more ⟨h0, hn⟩
    · refine (pcount_long p v m n M E S w h1 hmw h0 (by omega)).mono fun e w' hp => ?_
      exact kpost_fail hF h5 h2 (by decide) (fun q => hn q.2) hp
  · refine (pcount_neg p v m n M E S w h1 hmw (by omega)).mono fun e w' hp => ?_
    exact kpost_fail hF h5 h2 (by decide) (fun q => h0 q.1) hp
theorem k_raw (F : Nat → Prop) (p : Nat) (M : Int) (s : List UInt8) (P : Prop) (l : List UInt8) (w : World) (h : WrK F w p M P l) (hF : Ok F w p) (hM0 : 0 ≤ M) (hM1 : M ≤ 2147483647) (hs : s.length ≤ 140737488355328) (hr : P → s.length % 4 = 0 → (l.length : Int) + s.length ≤ M) :
    Calls Tryz.prog 124 #[.pointer (some ⟨p, 0, none⟩), .string ⟨s.toArray⟩] w (KPost F p M (P ∧ s.length % 4 = 0) (l ++ s) w) := by
  obtain ⟨v, S, E, h1, h2, h3, h4, h5⟩ := h
  by_cases hn : s.length % 4 = 0
  · refine (praw_ok p v M E S ⟨s.toArray⟩ w h1 hM0 hM1 h2 (by have := ba_size s; omega) (by rw [ba_size, bne_eq_false_iff_eq]; omega)).mono fun e w' hp => ?_
    exact (kpost_laid (t := s) hF h5 h2 h3 h4 rfl (fun q => hr q hn) hp).more hn
  · refine (praw_bad p v M E S ⟨s.toArray⟩ w h1 (by rw [ba_size, bne_iff_ne]; omega)).mono fun e w' hp => ?_
    exact kpost_fail hF h5 h2 (by decide) hn hp
theorem k_fail (F : Nat → Prop) (p : Nat) (M N : Int) (P : Prop) (l : List UInt8) (w : World) (h : WrK F w p M P l) (hF : Ok F w p) (hN : N ≠ 0) :
    Calls Tryz.prog 115 #[.pointer (some ⟨p, 0, none⟩), .int .i64 N] w (KPost F p M (P ∧ False) l w) := by
  obtain ⟨v, S, E, h1, h2, h3, h4, h5⟩ := h
  exact (pfail_any p v M E N S w h1).mono fun e w' hp => kpost_fail hF h5 h2 hN id hp
end Go.Proofs.YtfcbjcebkahehaaGreatDoor
namespace Go.Proofs.YtfcbjcebkahehaaGreatDoor
open Go.RowKit
/-- a function as a value -/
def fv (k : Nat) : Value := .func (.func k) #[] #[]
/-- a block more at the end -/
theorem boxed (w wa : World) (cs : List Value) (t : TypeId) (h : w.alloc (.cells cs.toArray t) = wa) : Bk wa w.heap.size cs t ∧ Below w.heap.size w wa ∧ wa.heap.size = w.heap.size + 1 := by
  subst h
  exact ⟨Bk.new _ _ _, below_new _ _, by simp⟩
set_option maxRecDepth 4000 in
set_option maxHeartbeats 1000000 in
theorem word_lay {Q : Ending → World → Prop} (b i p : Nat) (n : Int) (w : World) (hb : b < w.heap.size) (hc : w.cell? ⟨b, i, none⟩ = some (.int .i64 n))
    (HQ : Hid (∀ w1, Below w.heap.size w w1 → Calls Tryz.prog 116 #[.pointer (some ⟨p, 0, none⟩), .int .i64 n] w1 fun e w' => e = .returned (.tuple #[]) ∧ Q e w')) :
    Calls Tryz.prog 224 #[.agg #[.pointer (some ⟨b, i, none⟩), fv 116, fv 117], .pointer (some ⟨p, 0, none⟩)] w Q := by
  unfold fv
  obtain ⟨wa, hwa⟩ : ∃ x, w.alloc (.cells #[.pointer (some ⟨b, i, none⟩), .func (.func 116) #[] #[], .func (.func 117) #[] #[]] 191) = x := ⟨_, rfl⟩
  obtain ⟨hk, hB, hz⟩ := boxed w wa _ _ hwa
  have HB := hid hB
  have a0 := hk.cell 0 rfl
  have a1 := hk.cell 1 rfl
  have ac : wa.cell? ⟨b, i, none⟩ = some (.int .i64 n) := (cells_of_block (hB.block b hb) i).1.trans hc
  clear hk hB hz hb hc
  go_enter Tryz.func224, Tryz.ntmps224
  go_wp2_with fail
  go_region_with (first | (refine (HQ.out _ (below_drew HB.out 1)).mono ?_; rintro e w' ⟨rfl, h⟩))
  all_goals (
    go_wp2
    first | go_end0 | refine bodyPost_ret (results_none rfl _ _ _) rfl ?_
    exact h)
set_option maxRecDepth 4000 in
set_option maxHeartbeats 1000000 in
theorem flag_lay {Q : Ending → World → Prop} (b i p : Nat) (n : Bool) (w : World) (hb : b < w.heap.size) (hc : w.cell? ⟨b, i, none⟩ = some (.bool n))
    (HQ : Hid (∀ w1, Below w.heap.size w w1 → Calls Tryz.prog 118 #[.pointer (some ⟨p, 0, none⟩), .bool n] w1 fun e w' => e = .returned (.tuple #[]) ∧ Q e w')) :
    Calls Tryz.prog 231 #[.agg #[.pointer (some ⟨b, i, none⟩), fv 118, fv 119], .pointer (some ⟨p, 0, none⟩)] w Q := by
  unfold fv
  obtain ⟨wa, hwa⟩ : ∃ x, w.alloc (.cells #[.pointer (some ⟨b, i, none⟩), .func (.func 118) #[] #[], .func (.func 119) #[] #[]] 199) = x := ⟨_, rfl⟩
  obtain ⟨hk, hB, hz⟩ := boxed w wa _ _ hwa
  have HB := hid hB
  have a0 := hk.cell 0 rfl
  have a1 := hk.cell 1 rfl
  have ac : wa.cell? ⟨b, i, none⟩ = some (.bool n) := (cells_of_block (hB.block b hb) i).1.trans hc
  clear hk hB hz hb hc
  go_enter Tryz.func231, Tryz.ntmps231
  go_wp2_with fail
  go_region_with (first | (refine (HQ.out _ (below_drew HB.out 1)).mono ?_; rintro e w' ⟨rfl, h⟩))
  all_goals (
    go_wp2
    first | go_end0 | refine bodyPost_ret (results_none rfl _ _ _) rfl ?_
    exact h)
end Go.Proofs.YtfcbjcebkahehaaGreatDoor
namespace Go.Proofs.YtfcbjcebkahehaaGreatDoor
open Go.RowKit
set_option maxRecDepth 4000 in
set_option maxHeartbeats 1000000 in
theorem small_lay {Q : Ending → World → Prop} (b i p : Nat) (m n : Int) (w : World) (hb : b < w.heap.size) (hc : w.cell? ⟨b, i, none⟩ = some (.int .i64 n))
    (HQ : Hid (∀ w1, Below w.heap.size w w1 → Calls Tryz.prog 120 #[.pointer (some ⟨p, 0, none⟩), .int .i64 m, .int .i64 n] w1 fun e w' => e = .returned (.tuple #[]) ∧ Q e w')) :
    Calls Tryz.prog 235 #[.agg #[.pointer (some ⟨b, i, none⟩), .int .i64 m, fv 120, fv 121], .pointer (some ⟨p, 0, none⟩)] w Q := by
  unfold fv
  obtain ⟨wa, hwa⟩ : ∃ x, w.alloc (.cells #[.pointer (some ⟨b, i, none⟩), .int .i64 m, .func (.func 120) #[] #[], .func (.func 121) #[] #[]] 204) = x := ⟨_, rfl⟩
  obtain ⟨hk, hB, hz⟩ := boxed w wa _ _ hwa
  have HB := hid hB
  have a0 := hk.cell 0 rfl
  have a1 := hk.cell 1 rfl
  have a2 := hk.cell 2 rfl
  have ac : wa.cell? ⟨b, i, none⟩ = some (.int .i64 n) := (cells_of_block (hB.block b hb) i).1.trans hc
  clear hk hB hz hb hc
  go_enter Tryz.func235, Tryz.ntmps235
  go_wp2_with fail
  go_region_with (first | (refine (HQ.out _ (below_drew HB.out 1)).mono ?_; rintro e w' ⟨rfl, h⟩))
  all_goals (
    go_wp2
    first | go_end0 | refine bodyPost_ret (results_none rfl _ _ _) rfl ?_
    exact h)
end Go.Proofs.YtfcbjcebkahehaaGreatDoor
namespace Go.Proofs.YtfcbjcebkahehaaGreatDoor
open Go.RowKit
set_option maxRecDepth 4000 in
set_option maxHeartbeats 1000000 in
theorem body_lay {Q : Ending → World → Prop} (b i p : Nat) (m : Int) (n : ByteArray) (w : World) (hb : b < w.heap.size) (hc : w.cell? ⟨b, i, none⟩ = some (.string n))
    (HQ : Hid (∀ w1, Below w.heap.size w w1 → Calls Tryz.prog 122 #[.pointer (some ⟨p, 0, none⟩), .int .i64 m, .string n] w1 fun e w' => e = .returned (.tuple #[]) ∧ Q e w')) :
    Calls Tryz.prog 238 #[.agg #[.pointer (some ⟨b, i, none⟩), .int .i64 m, fv 122, fv 123], .pointer (some ⟨p, 0, none⟩)] w Q := by
  unfold fv
  obtain ⟨wa, hwa⟩ : ∃ x, w.alloc (.cells #[.pointer (some ⟨b, i, none⟩), .int .i64 m, .func (.func 122) #[] #[], .func (.func 123) #[] #[]] 211) = x := ⟨_, rfl⟩
  obtain ⟨hk, hB, hz⟩ := boxed w wa _ _ hwa
  have HB := hid hB
  have a0 := hk.cell 0 rfl
  have a1 := hk.cell 1 rfl
  have a2 := hk.cell 2 rfl
  have ac : wa.cell? ⟨b, i, none⟩ = some (.string n) := (cells_of_block (hB.block b hb) i).1.trans hc
  clear hk hB hz hb hc
  go_enter Tryz.func238, Tryz.ntmps238
  go_wp2_with fail
  go_region_with (first | (refine (HQ.out _ (below_drew HB.out 1)).mono ?_; rintro e w' ⟨rfl, h⟩))
  all_goals (
    go_wp2
    first | go_end0 | refine bodyPost_ret (results_none rfl _ _ _) rfl ?_
    exact h)
end Go.Proofs.YtfcbjcebkahehaaGreatDoor
namespace Go.Proofs.YtfcbjcebkahehaaGreatDoor
open Go.RowKit
set_option maxRecDepth 4000 in
theorem word_empty (b i : Nat) (n : Int) (w : World) (hb : b < w.heap.size) (hc : w.cell? ⟨b, i, none⟩ = some (.int .i64 n)) :
    Calls Tryz.prog 223 #[.agg #[.pointer (some ⟨b, i, none⟩), fv 116, fv 117]] w fun e w' => e = .returned (.bool (n == 0)) ∧ Below w.heap.size w w' := by
  unfold fv
  obtain ⟨wa, hwa⟩ : ∃ x, w.alloc (.cells #[.pointer (some ⟨b, i, none⟩), .func (.func 116) #[] #[], .func (.func 117) #[] #[]] 191) = x := ⟨_, rfl⟩
  obtain ⟨hk, hB, hz⟩ := boxed w wa _ _ hwa
  have HB := hid hB
  have a0 := hk.cell 0 rfl
  have ac : wa.cell? ⟨b, i, none⟩ = some (.int .i64 n) := (cells_of_block (hB.block b hb) i).1.trans hc
  clear hk hB hz hb hc
  go_enter Tryz.func223, Tryz.ntmps223
  go_wp2
  go_ret
  exact ⟨rfl, HB.out⟩
set_option maxRecDepth 4000 in
theorem flag_empty (b i : Nat) (n : Bool) (w : World) (hb : b < w.heap.size) (hc : w.cell? ⟨b, i, none⟩ = some (.bool n)) :
    Calls Tryz.prog 230 #[.agg #[.pointer (some ⟨b, i, none⟩), fv 118, fv 119]] w fun e w' => e = .returned (.bool (!n)) ∧ Below w.heap.size w w' := by
  unfold fv
  obtain ⟨wa, hwa⟩ : ∃ x, w.alloc (.cells #[.pointer (some ⟨b, i, none⟩), .func (.func 118) #[] #[], .func (.func 119) #[] #[]] 199) = x := ⟨_, rfl⟩
  obtain ⟨hk, hB, hz⟩ := boxed w wa _ _ hwa
  have HB := hid hB
  have a0 := hk.cell 0 rfl
  have ac : wa.cell? ⟨b, i, none⟩ = some (.bool n) := (cells_of_block (hB.block b hb) i).1.trans hc
  clear hk hB hz hb hc
  go_enter Tryz.func230, Tryz.ntmps230
  go_wp2
  go_ret
  exact ⟨(by cases n <;> rfl), HB.out⟩
set_option maxRecDepth 4000 in
theorem small_empty (b i : Nat) (m n : Int) (w : World) (hb : b < w.heap.size) (hc : w.cell? ⟨b, i, none⟩ = some (.int .i64 n)) :
    Calls Tryz.prog 234 #[.agg #[.pointer (some ⟨b, i, none⟩), .int .i64 m, fv 120, fv 121]] w fun e w' => e = .returned (.bool (n == 0)) ∧ Below w.heap.size w w' := by
  unfold fv
  obtain ⟨wa, hwa⟩ : ∃ x, w.alloc (.cells #[.pointer (some ⟨b, i, none⟩), .int .i64 m, .func (.func 120) #[] #[], .func (.func 121) #[] #[]] 204) = x := ⟨_, rfl⟩
  obtain ⟨hk, hB, hz⟩ := boxed w wa _ _ hwa
  have HB := hid hB
  have a0 := hk.cell 0 rfl
  have ac : wa.cell? ⟨b, i, none⟩ = some (.int .i64 n) := (cells_of_block (hB.block b hb) i).1.trans hc
  clear hk hB hz hb hc
  go_enter Tryz.func234, Tryz.ntmps234
  go_wp2
  go_ret
  exact ⟨rfl, HB.out⟩
set_option maxRecDepth 4000 in
theorem body_empty (b i : Nat) (m : Int) (n : ByteArray) (w : World) (hb : b < w.heap.size) (hc : w.cell? ⟨b, i, none⟩ = some (.string n)) :
    Calls Tryz.prog 237 #[.agg #[.pointer (some ⟨b, i, none⟩), .int .i64 m, fv 122, fv 123]] w fun e w' => e = .returned (.bool n.toList.isEmpty) ∧ Below w.heap.size w w' := by
  unfold fv
  obtain ⟨wa, hwa⟩ : ∃ x, w.alloc (.cells #[.pointer (some ⟨b, i, none⟩), .int .i64 m, .func (.func 122) #[] #[], .func (.func 123) #[] #[]] 211) = x := ⟨_, rfl⟩
  obtain ⟨hk, hB, hz⟩ := boxed w wa _ _ hwa
  have HB := hid hB
  have a0 := hk.cell 0 rfl
  have ac : wa.cell? ⟨b, i, none⟩ = some (.string n) := (cells_of_block (hB.block b hb) i).1.trans hc
  clear hk hB hz hb hc
  go_enter Tryz.func237, Tryz.ntmps237
  go_wp2
  go_ret
  exact ⟨rfl, HB.out⟩
set_option maxRecDepth 4000 in
theorem tail_empty (b i : Nat) (n : ByteArray) (w : World) (hb : b < w.heap.size) (hc : w.cell? ⟨b, i, none⟩ = some (.string n)) :
    Calls Tryz.prog 241 #[.agg #[.pointer (some ⟨b, i, none⟩), fv 124, fv 125]] w fun e w' => e = .returned (.bool n.toList.isEmpty) ∧ Below w.heap.size w w' := by
  unfold fv
  obtain ⟨wa, hwa⟩ : ∃ x, w.alloc (.cells #[.pointer (some ⟨b, i, none⟩), .func (.func 124) #[] #[], .func (.func 125) #[] #[]] 217) = x := ⟨_, rfl⟩
  obtain ⟨hk, hB, hz⟩ := boxed w wa _ _ hwa
  have HB := hid hB
  have a0 := hk.cell 0 rfl
  have ac : wa.cell? ⟨b, i, none⟩ = some (.string n) := (cells_of_block (hB.block b hb) i).1.trans hc
  clear hk hB hz hb hc
  go_enter Tryz.func241, Tryz.ntmps241
  go_wp2
  go_ret
  exact ⟨rfl, HB.out⟩
theorem sign_empty (n : Int) (w : World) : Calls Tryz.prog 227 #[.agg #[.int .i64 n, fv 116, fv 117]] w fun e w' => e = .returned (.bool true) ∧ Below w.heap.size w w' := by
  unfold fv
  go_enter Tryz.func227, Tryz.ntmps227
  go_wp2
  go_ret
  exact ⟨rfl, by first | exact Below.refl _ _ | exact below_new _ _⟩
end Go.Proofs.YtfcbjcebkahehaaGreatDoor
