/- The program's Reader: a truth, what is left, what was wrong, Fail. -/
import Derived.Test.YtfcbjcebkahehaaGreatDoorZag
import Derived.Test.YtfcbjcebkahehaaGreatDoorZah
namespace Go.Proofs.YtfcbjcebkahehaaGreatDoor
open Go.RowKit
/-- a truth -/
def rdBool (l : List UInt8) : Rd Bool := if (rdWord l).wrong ≠ 0 then ⟨(rdWord l).wrong, 4, false⟩ else if 1 < (rdWord l).val then ⟨25, 4, false⟩ else ⟨0, 4, (rdWord l).val == 1⟩

theorem rbool_A {Q : World → Prop} (p : Nat) (n : Int) (x : Value) (s : ByteArray) (w : World) (h0 : w.cell? ⟨p, 0, none⟩ = some (.string s))
    (H1 : Hid (Calls Tryz.prog 158 #[.string s] w fun e w' => e = .returned (.tuple #[.int .u32 n, .iface 244 x]) ∧ Below w.heap.size w w'))
    (H3 : Hid (∀ w1, Below w.heap.size w w1 → Calls Tryz.prog 159 #[.pointer (some ⟨p, 0, none⟩), .int .i64 4, .iface 244 x] w1 fun e w' => e = .returned (.bool false) ∧ Q w')) :
    Calls Tryz.prog 119 #[.pointer (some ⟨p, 0, none⟩)] w fun e w' => e = .returned (.bool false) ∧ Q w' := by
  have q := eql_iface_rd x
  go_enter Tryz.func119, Tryz.ntmps119
  go_wp2_with fail
  refine H1.out.mono ?_
  rintro e w1 ⟨rfl, hB⟩
  have HB : Hid (Below w.heap.size w w1) := hB
  clear hB
  go_wp2_with fail
  refine (H3.out _ HB.out).mono ?_
  rintro e w2 ⟨rfl, hQ⟩
  have HQ : Hid (Q w2) := hQ
  clear hQ
  go_wp2
  go_ret
  exact ⟨rfl, HQ.out⟩
theorem rbool_B {Q : World → Prop} (p : Nat) (n : Int) (s : ByteArray) (w : World) (h0 : w.cell? ⟨p, 0, none⟩ = some (.string s)) (hn : 1 < n)
    (H1 : Hid (Calls Tryz.prog 158 #[.string s] w fun e w' => e = .returned (.tuple #[.int .u32 n, .nilIface]) ∧ Below w.heap.size w w'))
    (H3 : Hid (∀ w1, Below w.heap.size w w1 → Calls Tryz.prog 159 #[.pointer (some ⟨p, 0, none⟩), .int .i64 4, .iface 244 (.agg #[.int .i64 25])] w1 fun e w' => e = .returned (.bool false) ∧ Q w')) :
    Calls Tryz.prog 119 #[.pointer (some ⟨p, 0, none⟩)] w fun e w' => e = .returned (.bool false) ∧ Q w' := by
  go_enter Tryz.func119, Tryz.ntmps119
  go_wp2_with fail
  refine H1.out.mono ?_
  rintro e w1 ⟨rfl, hB⟩
  have HB : Hid (Below w.heap.size w w1) := hB
  clear hB
  go_wp2_with fail
  refine (H3.out _ HB.out).mono ?_
  rintro e w2 ⟨rfl, hQ⟩
  have HQ : Hid (Q w2) := hQ
  clear hQ
  go_wp2
  go_ret
  exact ⟨rfl, HQ.out⟩
theorem rbool_C {Q : World → Prop} (p : Nat) (n : Int) (b : Bool) (s : ByteArray) (w : World) (h0 : w.cell? ⟨p, 0, none⟩ = some (.string s)) (hn : ¬ 1 < n)
    (H1 : Hid (Calls Tryz.prog 158 #[.string s] w fun e w' => e = .returned (.tuple #[.int .u32 n, .nilIface]) ∧ Below w.heap.size w w'))
    (H3 : Hid (∀ w1, Below w.heap.size w w1 → Calls Tryz.prog 159 #[.pointer (some ⟨p, 0, none⟩), .int .i64 4, .nilIface] w1 fun e w' => e = .returned (.bool b) ∧ Q w')) :
    Calls Tryz.prog 119 #[.pointer (some ⟨p, 0, none⟩)] w fun e w' => e = .returned (.bool (if b then n == 1 else false)) ∧ Q w' := by
  cases b
  · go_enter Tryz.func119, Tryz.ntmps119
    go_wp2_with fail
    refine H1.out.mono ?_
    rintro e w1 ⟨rfl, hB⟩
    have HB : Hid (Below w.heap.size w w1) := hB
    clear hB
    go_wp2_with fail
    refine (H3.out _ HB.out).mono ?_
    rintro e w2 ⟨rfl, hQ⟩
    have HQ : Hid (Q w2) := hQ
    clear hQ
    go_wp2
    go_ret
    exact ⟨rfl, HQ.out⟩
  · go_enter Tryz.func119, Tryz.ntmps119
    go_wp2_with fail
    refine H1.out.mono ?_
    rintro e w1 ⟨rfl, hB⟩
    have HB : Hid (Below w.heap.size w w1) := hB
    clear hB
    go_wp2_with fail
    refine (H3.out _ HB.out).mono ?_
    rintro e w2 ⟨rfl, hQ⟩
    have HQ : Hid (Q w2) := hQ
    clear hQ
    go_wp2
    go_ret
    exact ⟨rfl, HQ.out⟩

theorem rbool_any (p : Nat) (l : List UInt8) (E : Int) (w : World) (h : RR w p l E) : Calls Tryz.prog 119 #[.pointer (some ⟨p, 0, none⟩)] w (RPost p l E false rdBool (fun b => .bool b) w) := by
  have hf := frontWord_any l w
  by_cases hw : (rdWord l).wrong = 0
  · rw [hw] at hf
    have h4 := (rdWord_size l).2.1 hw
    by_cases hv : 1 < (rdWord l).val
    · refine (rbool_B (Q := fun w' => RR w' p l (if E = 0 then 25 else E) ∧ Sole p w w') p _ _ w h.l (by omega) hf (fun w1 hB => tk_bad p E 25 l w h (by decide) 4 w1 hB)).mono ?_
      exact fun e w' hp => RPost.bad (F := 25) (by unfold rdBool; rw [if_neg (by simp [hw]), if_pos hv]) (by decide) hp
    · obtain ⟨b, hb⟩ : ∃ b, decide (E = 0) = b := ⟨_, rfl⟩
      refine (rbool_C (Q := fun w' => RR w' p (if b then l.drop 4 else l) E ∧ Sole p w w') p _ b _ w h.l (by omega) hf (fun w1 hB => tk_good p 4 E l b w h hb h4 w1 hB)).mono ?_
      intro e w' hp
      refine RPost.good (k := 4) (x := (rdWord l).val == 1) b hb (by unfold rdBool; rw [if_neg (by simp [hw]), if_neg hv]) ?_
      have e1 : (((rdWord l).val : Int) == 1) = ((rdWord l).val == 1) := by
        rw [Bool.eq_iff_iff]; simp only [beq_iff_eq]; omega
      rw [e1] at hp; exact hp
  · rw [trW_ne hw] at hf
    have ht := tk_bad p E _ l w h hw 4
    rw [trW_ne hw] at ht
    refine (rbool_A (Q := fun w' => RR w' p l (if E = 0 then (rdWord l).wrong else E) ∧ Sole p w w') p _ _ _ w h.l hf ht).mono ?_
    exact fun e w' hp => RPost.bad (F := (rdWord l).wrong) (by unfold rdBool; rw [if_pos hw]) hw hp
def rdRest (l : List UInt8) : Rd (List UInt8) := ⟨0, l.length, l⟩

theorem rrest_B {Q : World → Prop} (p : Nat) (b : Bool) (s : ByteArray) (w : World) (h0 : w.cell? ⟨p, 0, none⟩ = some (.string s))
    (H3 : Hid (∀ w1, Below w.heap.size w w1 → Calls Tryz.prog 159 #[.pointer (some ⟨p, 0, none⟩), .int .i64 s.size, .nilIface] w1 fun e w' => e = .returned (.bool b) ∧ Q w'))
    (H4 : Hid (∀ w, Calls Tryz.prog 45 #[.string s] w fun e w' => e = .returned (.string s) ∧ Below w.heap.size w w'))
    (HQB : Hid (∀ a c, Q a → Below a.heap.size a c → Q c)) :
    Calls Tryz.prog 125 #[.pointer (some ⟨p, 0, none⟩)] w fun e w' => e = .returned (.string (if b then s else ⟨#[]⟩)) ∧ Q w' := by
  have HB : Hid (Below w.heap.size w w) := Below.refl _ _
  cases b
  · go_enter Tryz.func125, Tryz.ntmps125
    go_wp2_with fail
    refine (H3.out _ HB.out).mono ?_
    rintro e w2 ⟨rfl, hQ⟩
    have HQ : Hid (Q w2) := hQ
    clear hQ
    go_wp2
    go_ret
    exact ⟨rfl, HQ.out⟩
  · go_enter Tryz.func125, Tryz.ntmps125
    go_wp2_with fail
    refine (H3.out _ HB.out).mono ?_
    rintro e w2 ⟨rfl, hQ⟩
    have HQ : Hid (Q w2) := hQ
    clear hQ
    go_wp2_with fail
    refine (H4.out _).mono ?_
    rintro e w3 ⟨rfl, hB3⟩
    have HQ3 : Hid (Q w3) := HQB.out _ _ HQ.out hB3
    clear hB3
    go_wp2
    go_ret
    exact ⟨rfl, HQ3.out⟩
theorem rrest_any (p : Nat) (l : List UInt8) (E : Int) (w : World) (h : RR w p l E) (hl : l.length ≤ 281474976710656) :
    Calls Tryz.prog 125 #[.pointer (some ⟨p, 0, none⟩)] w (RPost p l E [] rdRest (fun s => Bs s) w) := by
  obtain ⟨b, hb⟩ : ∃ b, decide (E = 0) = b := ⟨_, rfl⟩
  refine (rrest_B (Q := fun w' => RR w' p (if b then l.drop l.length else l) E ∧ Sole p w w') p b _ w h.l (fun w1 hB => by rw [Bs_size]; exact tk_good p l.length E l b w h hb (Nat.le_refl _) w1 hB) (clone_rd l hl) RR.sole_below).mono ?_
  intro e w' hp
  refine RPost.good (k := l.length) (x := l) b hb rfl ?_
  refine ⟨?_, hp.2⟩
  rw [hp.1]
  cases b <;> rfl

theorem rleft_any (p : Nat) (s : ByteArray) (w : World) (h0 : w.cell? ⟨p, 0, none⟩ = some (.string s)) : Calls Tryz.prog 245 #[.pointer (some ⟨p, 0, none⟩)] w fun e w' => e = .returned (.int .i64 s.size) ∧ w' = w := by
  go_enter Tryz.func245, Tryz.ntmps245
  go_wp2
  go_ret
  exact ⟨rfl, rfl⟩

theorem rwrong_any (p : Nat) (l : List UInt8) (E : Int) (w : World) (h : RR w p l E) (hE : ErrT w) : Calls Tryz.prog 128 #[.pointer (some ⟨p, 0, none⟩)] w fun e w' => e = .returned (.int .i64 E) ∧ Below w.heap.size w w' := by
  have H1 : Hid (Calls Tryz.prog 135 #[.pointer (some ⟨p, 1, none⟩)] w fun r w' => r = .returned (.int .i64 E) ∧ Below w.heap.size w w') := number_any ⟨p, 1, none⟩ E w hE h.e
  clear h hE
  go_enter Tryz.func128, Tryz.ntmps128
  go_wp2_with fail
  refine H1.out.mono ?_
  rintro e w1 ⟨rfl, hB⟩
  have HB : Hid (Below w.heap.size w w1) := hB
  clear hB
  go_wp2
  go_ret
  exact ⟨rfl, HB.out⟩

/-- Fail: what was wrong first stays -/
def Rs.fail (st : Rs) (F : Int) : Rs := ⟨st.l, if st.e = 0 then F else st.e⟩
theorem rfail_first (p : Nat) (F : Int) (l : List UInt8) (w : World) (h : RR w p l 0) :
    Calls Tryz.prog 189 #[.pointer (some ⟨p, 0, none⟩), .int .i64 F] w fun e w' => e = .returned (.tuple #[]) ∧ ∃ k, w' = (w.drewN k).setCell ⟨p, 1, none⟩ (trW F) := by
  have h2 := h.e
  have h5 := h.f1
  have H1 : Hid (∀ w, Calls Tryz.prog 154 #[.int .i64 F] w fun r w' => r = .returned (trW F) ∧ w' = w) := fun w => faultOf_any F w
  have H2 : Hid (∀ k, Calls Tryz.prog 153 #[.pointer (some ⟨p, 1, none⟩), trW F] (w.drewN k) fun r w' => r = .returned (.tuple #[]) ∧ w' = (w.drewN k).setCell ⟨p, 1, none⟩ (trW F)) := fun k => note_first_rd ⟨p, 1, none⟩ F (w.drewN k) h2 h5
  clear h h2 h5
  go_enter Tryz.func189, Tryz.ntmps189
  go_wp2_with fail
  go_region_with (first | (go_at_call 154; refine (H1.out _).mono ?_; rintro e w' ⟨rfl, rfl⟩) | (go_at_call 153; refine (H2.out 1).mono ?_; rintro e w' ⟨rfl, rfl⟩))
  go_wp2
  first | go_end0 | refine bodyPost_ret (results_none rfl _ _ _) rfl ?_
  exact ⟨rfl, 1, rfl⟩
theorem rfail_later (p : Nat) (E F : Int) (l : List UInt8) (w : World) (h : RR w p l E) (hE : E ≠ 0) :
    Calls Tryz.prog 189 #[.pointer (some ⟨p, 0, none⟩), .int .i64 F] w fun e w' => e = .returned (.tuple #[]) ∧ ∃ k, w' = w.drewN k := by
  have h2 := h.e
  unfold trW at h2
  rw [if_neg hE] at h2
  have H1 : Hid (∀ w, Calls Tryz.prog 154 #[.int .i64 F] w fun r w' => r = .returned (trW F) ∧ w' = w) := fun w => faultOf_any F w
  have H2 : Hid (∀ k, Calls Tryz.prog 153 #[.pointer (some ⟨p, 1, none⟩), trW F] (w.drewN k) fun r w' => r = .returned (.tuple #[]) ∧ w' = w.drewN k) := fun k => note_later_rd ⟨p, 1, none⟩ (trW F) _ (w.drewN k) h2
  clear h h2
  go_enter Tryz.func189, Tryz.ntmps189
  go_wp2_with fail
  go_region_with (first | (go_at_call 154; refine (H1.out _).mono ?_; rintro e w' ⟨rfl, rfl⟩) | (go_at_call 153; refine (H2.out 1).mono ?_; rintro e w' ⟨rfl, rfl⟩))
  go_wp2
  first | go_end0 | refine bodyPost_ret (results_none rfl _ _ _) rfl ?_
  exact ⟨rfl, 1, rfl⟩
theorem RR.drewN {w : World} {p : Nat} {l : List UInt8} {E : Int} (h : RR w p l E) (k : Nat) : RR (w.drewN k) p l E := ⟨h.l, h.e, h.f0, h.f1⟩
theorem rfail_any (p : Nat) (F : Int) (st : Rs) (w : World) (h : RR w p st.l st.e) :
    Calls Tryz.prog 189 #[.pointer (some ⟨p, 0, none⟩), .int .i64 F] w fun e w' => e = .returned (.tuple #[]) ∧ RR w' p (st.fail F).l (st.fail F).e ∧ Sole p w w' := by
  obtain ⟨l, E⟩ := st
  unfold Rs.fail
  by_cases hE : E = 0
  · subst hE
    refine (rfail_first p F l w h).mono ?_
    rintro e w' ⟨rfl, k, rfl⟩
    exact ⟨rfl, (RR.drewN h k).setE F, (Sole.drewN p w k).trans (Sole.setCell _ _ _)⟩
  · refine (rfail_later p E F l w h hE).mono ?_
    rintro e w' ⟨rfl, k, rfl⟩
    refine ⟨rfl, ?_, Sole.drewN p w k⟩
    show RR _ p l (if E = 0 then F else E)
    rw [if_neg hE]
    exact RR.drewN h k
end Go.Proofs.YtfcbjcebkahehaaGreatDoor
