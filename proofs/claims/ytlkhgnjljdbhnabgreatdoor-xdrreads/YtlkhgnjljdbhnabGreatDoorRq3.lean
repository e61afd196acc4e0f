/- The program's Reader: Bool, numbers with a point. The program's Reader: numbers with a point. The program's Reader: Fixed. -/
import Derived.Test.YtlkhgnjljdbhnabGreatDoorRq2
namespace Go.Proofs.YtlkhgnjljdbhnabGreatDoor
open Go.RowKit
/-- the end of a reading that goes wrong -/
theorem tk_bad (p : Nat) (E F : Int) (l : List UInt8) (w : World) (h : RR w p l E) (hF : F ≠ 0) : ∀ (n : Int) (w1 : World), Below w.heap.size w w1 →
    Calls Tryz.prog 56 #[.pointer (some ⟨p, 0, none⟩), .int .i64 n, trW F] w1 fun e w' => e = .returned (.bool false) ∧ RR w' p l (if E = 0 then F else E) ∧ Sole p w w' := fun n w1 hB =>
  (take_any p n E F l w1 false (h.below hB) (decide_eq_false fun c => hF c.2) (fun c => by cases c)).mono fun e w' hp => ⟨hp.1, hp.2.1, (Sole.of_below hB).trans hp.2.2⟩

/-- the end of a reading that may be -/
theorem tk_good (p n : Nat) (E : Int) (l : List UInt8) (b : Bool) (w : World) (h : RR w p l E) (hb : decide (E = 0) = b) (hn : n ≤ l.length) : ∀ (w1 : World), Below w.heap.size w w1 →
    Calls Tryz.prog 56 #[.pointer (some ⟨p, 0, none⟩), .int .i64 n, .nilIface] w1 fun e w' => e = .returned (.bool b) ∧ RR w' p (if b then l.drop n else l) E ∧ Sole p w w' := fun w1 hB => by
  have h1 := take_any p n E 0 l w1 b (h.below hB) (by rw [← hb]; simp) (fun _ => by omega)
  rw [Int.toNat_natCast, show (if E = 0 then (0 : Int) else E) = E by split <;> omega] at h1
  exact h1.mono fun e w' hp => ⟨hp.1, hp.2.1, (Sole.of_below hB).trans hp.2.2⟩

theorem RPost.bad {α : Type} {p : Nat} {l : List UInt8} {E F : Int} {d : α} {f : List UInt8 → Rd α} {v : α → Value} {w : World} {e : Ending} {w' : World} (hF : (f l).wrong = F) (hF0 : F ≠ 0)
    (h : e = .returned (v d) ∧ RR w' p l (if E = 0 then F else E) ∧ Sole p w w') : RPost p l E d f v w e w' := by
  unfold RPost
  rw [go_case, hF, if_neg (by rw [decide_eq_true_eq]; exact fun c => hF0 c.2)]
  exact h
theorem RPost.good {α : Type} {p k : Nat} {l : List UInt8} {E : Int} {d x : α} {f : List UInt8 → Rd α} {v : α → Value} {w : World} {e : Ending} {w' : World} (b : Bool) (hb : decide (E = 0) = b) (hf : f l = ⟨0, k, x⟩)
    (h : e = .returned (v (if b then x else d)) ∧ RR w' p (if b then l.drop k else l) E ∧ Sole p w w') : RPost p l E d f v w e w' := by
  unfold RPost
  rw [go_case, hf]
  subst hb
  by_cases hE : E = 0
  · subst hE; simpa using h
  · simpa [hE] using h

/-- a truth -/
def rdBool (l : List UInt8) : Rd Bool := if (rdWord l).wrong ≠ 0 then ⟨(rdWord l).wrong, 4, false⟩ else if 1 < (rdWord l).val then ⟨25, 4, false⟩ else ⟨0, 4, (rdWord l).val == 1⟩

theorem rbool_A {Q : World → Prop} (p : Nat) (n : Int) (x : Value) (s : ByteArray) (w : World) (h0 : w.cell? ⟨p, 0, none⟩ = some (.string s))
    (H1 : Hid (Calls Tryz.prog 55 #[.string s] w fun e w' => e = .returned (.tuple #[.int .u32 n, .iface 80 x]) ∧ Below w.heap.size w w'))
    (H3 : Hid (∀ w1, Below w.heap.size w w1 → Calls Tryz.prog 56 #[.pointer (some ⟨p, 0, none⟩), .int .i64 4, .iface 80 x] w1 fun e w' => e = .returned (.bool false) ∧ Q w')) :
    Calls Tryz.prog 29 #[.pointer (some ⟨p, 0, none⟩)] w fun e w' => e = .returned (.bool false) ∧ Q w' := by
  have q := eql_iface_rd x
  go_enter Tryz.func29, Tryz.ntmps29
  go_wp2_with fail
  refine H1.out.mono ?_
  rintro e w1 ⟨rfl, hB⟩
  have HB : Hid (Below w.heap.size w w1) := hB
  clear hB
  go_wp2_with fail
  refine (H3.out _ HB.out).mono ?_
  rintro e w2 ⟨rfl, hQ⟩
  have HQ : Hid (Q w2) := hQ
  clear hQ
  go_wp2
  go_ret
  exact ⟨rfl, HQ.out⟩
theorem rbool_B {Q : World → Prop} (p : Nat) (n : Int) (s : ByteArray) (w : World) (h0 : w.cell? ⟨p, 0, none⟩ = some (.string s)) (hn : 1 < n)
    (H1 : Hid (Calls Tryz.prog 55 #[.string s] w fun e w' => e = .returned (.tuple #[.int .u32 n, .nilIface]) ∧ Below w.heap.size w w'))
    (H3 : Hid (∀ w1, Below w.heap.size w w1 → Calls Tryz.prog 56 #[.pointer (some ⟨p, 0, none⟩), .int .i64 4, .iface 80 (.agg #[.int .i64 25])] w1 fun e w' => e = .returned (.bool false) ∧ Q w')) :
    Calls Tryz.prog 29 #[.pointer (some ⟨p, 0, none⟩)] w fun e w' => e = .returned (.bool false) ∧ Q w' := by
  go_enter Tryz.func29, Tryz.ntmps29
  go_wp2_with fail
  refine H1.out.mono ?_
  rintro e w1 ⟨rfl, hB⟩
  have HB : Hid (Below w.heap.size w w1) := hB
  clear hB
  go_wp2_with fail
  refine (H3.out _ HB.out).mono ?_
  rintro e w2 ⟨rfl, hQ⟩
  have HQ : Hid (Q w2) := hQ
  clear hQ
  go_wp2
  go_ret
  exact ⟨rfl, HQ.out⟩
theorem rbool_C {Q : World → Prop} (p : Nat) (n : Int) (b : Bool) (s : ByteArray) (w : World) (h0 : w.cell? ⟨p, 0, none⟩ = some (.string s)) (hn : ¬ 1 < n)
    (H1 : Hid (Calls Tryz.prog 55 #[.string s] w fun e w' => e = .returned (.tuple #[.int .u32 n, .nilIface]) ∧ Below w.heap.size w w'))
    (H3 : Hid (∀ w1, Below w.heap.size w w1 → Calls Tryz.prog 56 #[.pointer (some ⟨p, 0, none⟩), .int .i64 4, .nilIface] w1 fun e w' => e = .returned (.bool b) ∧ Q w')) :
    Calls Tryz.prog 29 #[.pointer (some ⟨p, 0, none⟩)] w fun e w' => e = .returned (.bool (if b then n == 1 else false)) ∧ Q w' := by
  cases b
  · go_enter Tryz.func29, Tryz.ntmps29
    go_wp2_with fail
    refine H1.out.mono ?_
    rintro e w1 ⟨rfl, hB⟩
    have HB : Hid (Below w.heap.size w w1) := hB
    clear hB
    go_wp2_with fail
    refine (H3.out _ HB.out).mono ?_
    rintro e w2 ⟨rfl, hQ⟩
    have HQ : Hid (Q w2) := hQ
    clear hQ
    go_wp2
    go_ret
    exact ⟨rfl, HQ.out⟩
  · go_enter Tryz.func29, Tryz.ntmps29
    go_wp2_with fail
    refine H1.out.mono ?_
    rintro e w1 ⟨rfl, hB⟩
    have HB : Hid (Below w.heap.size w w1) := hB
    clear hB
    go_wp2_with fail
    refine (H3.out _ HB.out).mono ?_
    rintro e w2 ⟨rfl, hQ⟩
    have HQ : Hid (Q w2) := hQ
    clear hQ
    go_wp2
    go_ret
    exact ⟨rfl, HQ.out⟩

theorem rbool_any (p : Nat) (l : List UInt8) (E : Int) (w : World) (h : RR w p l E) : Calls Tryz.prog 29 #[.pointer (some ⟨p, 0, none⟩)] w (RPost p l E false rdBool (fun b => .bool b) w) := by
  have hf := frontWord_any l w
  by_cases hw : (rdWord l).wrong = 0
  · rw [hw] at hf
    have h4 := (rdWord_size l).2.1 hw
    by_cases hv : 1 < (rdWord l).val
    · refine (rbool_B (Q := fun w' => RR w' p l (if E = 0 then 25 else E) ∧ Sole p w w') p _ _ w h.l (by omega) hf (fun w1 hB => tk_bad p E 25 l w h (by decide) 4 w1 hB)).mono ?_
      exact fun e w' hp => RPost.bad (F := 25) (by unfold rdBool; rw [if_neg (by simp [hw]), if_pos hv]) (by decide) hp
    · obtain ⟨b, hb⟩ : ∃ b, decide (E = 0) = b := ⟨_, rfl⟩
      refine (rbool_C (Q := fun w' => RR w' p (if b then l.drop 4 else l) E ∧ Sole p w w') p _ b _ w h.l (by omega) hf (fun w1 hB => tk_good p 4 E l b w h hb h4 w1 hB)).mono ?_
      intro e w' hp
      refine RPost.good (k := 4) (x := (rdWord l).val == 1) b hb (by unfold rdBool; rw [if_neg (by simp [hw]), if_neg hv]) ?_
      have e1 : (((rdWord l).val : Int) == 1) = ((rdWord l).val == 1) := by
        rw [Bool.eq_iff_iff]; simp only [beq_iff_eq]; omega
      rw [e1] at hp; exact hp
  · rw [trW_ne hw] at hf
    have ht := tk_bad p E _ l w h hw 4
    rw [trW_ne hw] at ht
    refine (rbool_A (Q := fun w' => RR w' p l (if E = 0 then (rdWord l).wrong else E) ∧ Sole p w w') p _ _ _ w h.l hf ht).mono ?_
    exact fun e w' hp => RPost.bad (F := (rdWord l).wrong) (by unfold rdBool; rw [if_pos hw]) hw hp

end Go.Proofs.YtlkhgnjljdbhnabGreatDoor
namespace Go.Proofs.YtlkhgnjljdbhnabGreatDoor
open Go.RowKit
def rdFloat (l : List UInt8) : Rd Nat := if (rdWord l).wrong ≠ 0 then ⟨(rdWord l).wrong, 4, 0⟩ else if nan32 (rdWord l).val = true ∧ (rdWord l).val ≠ 2143289344 then ⟨26, 4, 0⟩ else ⟨0, 4, (rdWord l).val⟩

theorem rfloat_A {Q : World → Prop} (p : Nat) (x : Value) (s : ByteArray) (w : World) (h0 : w.cell? ⟨p, 0, none⟩ = some (.string s))
    (H1 : Hid (Calls Tryz.prog 55 #[.string s] w fun e w' => e = .returned (.tuple #[.int .u32 0, .iface 80 x]) ∧ Below w.heap.size w w'))
    (H2 : Hid (∀ w, Calls Tryz.prog 63 #[.int .u32 0] w fun e w' => e = .returned (.tuple #[.float .f32 0, .int .i64 0]) ∧ w' = w))
    (H3 : Hid (∀ w1, Below w.heap.size w w1 → Calls Tryz.prog 56 #[.pointer (some ⟨p, 0, none⟩), .int .i64 4, .iface 80 x] w1 fun e w' => e = .returned (.bool false) ∧ Q w')) :
    Calls Tryz.prog 31 #[.pointer (some ⟨p, 0, none⟩)] w fun e w' => e = .returned (.float .f32 0) ∧ Q w' := by
  have q := eql_iface_rd x
  go_enter Tryz.func31, Tryz.ntmps31
  go_wp2_with fail
  refine H1.out.mono ?_
  rintro e w1 ⟨rfl, hB⟩
  have HB : Hid (Below w.heap.size w w1) := hB
  clear hB
  go_wp2_with fail
  refine (H2.out _).mono ?_
  rintro e w2 ⟨rfl, hw⟩
  have hw1 := hw.symm
  clear hw
  subst hw1
  go_wp2_with fail
  refine (H3.out _ HB.out).mono ?_
  rintro e w2 ⟨rfl, hQ⟩
  have HQ : Hid (Q w2) := hQ
  clear hQ
  go_wp2
  go_ret
  exact ⟨rfl, HQ.out⟩
theorem rfloat_B {Q : World → Prop} (p : Nat) (n : Int) (s : ByteArray) (w : World) (h0 : w.cell? ⟨p, 0, none⟩ = some (.string s))
    (H1 : Hid (Calls Tryz.prog 55 #[.string s] w fun e w' => e = .returned (.tuple #[.int .u32 n, .nilIface]) ∧ Below w.heap.size w w'))
    (H2 : Hid (∀ w, Calls Tryz.prog 63 #[.int .u32 n] w fun e w' => e = .returned (.tuple #[.float .f32 0, .int .i64 10]) ∧ w' = w))
    (H3 : Hid (∀ w1, Below w.heap.size w w1 → Calls Tryz.prog 56 #[.pointer (some ⟨p, 0, none⟩), .int .i64 4, .iface 80 (.agg #[.int .i64 26])] w1 fun e w' => e = .returned (.bool false) ∧ Q w')) :
    Calls Tryz.prog 31 #[.pointer (some ⟨p, 0, none⟩)] w fun e w' => e = .returned (.float .f32 0) ∧ Q w' := by
  go_enter Tryz.func31, Tryz.ntmps31
  go_wp2_with fail
  refine H1.out.mono ?_
  rintro e w1 ⟨rfl, hB⟩
  have HB : Hid (Below w.heap.size w w1) := hB
  clear hB
  go_wp2_with fail
  refine (H2.out _).mono ?_
  rintro e w2 ⟨rfl, hw⟩
  have hw1 := hw.symm
  clear hw
  subst hw1
  go_wp2_with fail
  refine (H3.out _ HB.out).mono ?_
  rintro e w2 ⟨rfl, hQ⟩
  have HQ : Hid (Q w2) := hQ
  clear hQ
  go_wp2
  go_ret
  exact ⟨rfl, HQ.out⟩
theorem rfloat_C {Q : World → Prop} (p : Nat) (n : Int) (x : Nat) (b : Bool) (s : ByteArray) (w : World) (h0 : w.cell? ⟨p, 0, none⟩ = some (.string s))
    (H1 : Hid (Calls Tryz.prog 55 #[.string s] w fun e w' => e = .returned (.tuple #[.int .u32 n, .nilIface]) ∧ Below w.heap.size w w'))
    (H2 : Hid (∀ w, Calls Tryz.prog 63 #[.int .u32 n] w fun e w' => e = .returned (.tuple #[.float .f32 x, .int .i64 0]) ∧ w' = w))
    (H3 : Hid (∀ w1, Below w.heap.size w w1 → Calls Tryz.prog 56 #[.pointer (some ⟨p, 0, none⟩), .int .i64 4, .nilIface] w1 fun e w' => e = .returned (.bool b) ∧ Q w')) :
    Calls Tryz.prog 31 #[.pointer (some ⟨p, 0, none⟩)] w fun e w' => e = .returned (.float .f32 (if b then x else 0)) ∧ Q w' := by
  cases b
  · go_enter Tryz.func31, Tryz.ntmps31
    go_wp2_with fail
    refine H1.out.mono ?_
    rintro e w1 ⟨rfl, hB⟩
    have HB : Hid (Below w.heap.size w w1) := hB
    clear hB
    go_wp2_with fail
    refine (H2.out _).mono ?_
    rintro e w2 ⟨rfl, hw⟩
    have hw1 := hw.symm
    clear hw
    subst hw1
    go_wp2_with fail
    refine (H3.out _ HB.out).mono ?_
    rintro e w2 ⟨rfl, hQ⟩
    have HQ : Hid (Q w2) := hQ
    clear hQ
    go_wp2
    go_ret
    exact ⟨rfl, HQ.out⟩
  · go_enter Tryz.func31, Tryz.ntmps31
    go_wp2_with fail
    refine H1.out.mono ?_
    rintro e w1 ⟨rfl, hB⟩
    have HB : Hid (Below w.heap.size w w1) := hB
    clear hB
    go_wp2_with fail
    refine (H2.out _).mono ?_
    rintro e w2 ⟨rfl, hw⟩
    have hw1 := hw.symm
    clear hw
    subst hw1
    go_wp2_with fail
    refine (H3.out _ HB.out).mono ?_
    rintro e w2 ⟨rfl, hQ⟩
    have HQ : Hid (Q w2) := hQ
    clear hQ
    go_wp2
    go_ret
    exact ⟨rfl, HQ.out⟩

theorem rfloat_any (p : Nat) (l : List UInt8) (E : Int) (w : World) (h : RR w p l E) : Calls Tryz.prog 31 #[.pointer (some ⟨p, 0, none⟩)] w (RPost p l E 0 rdFloat (fun n => .float .f32 n) w) := by
  have hf := frontWord_any l w
  have hlt := (rdWord_size l).2.2
  by_cases hw : (rdWord l).wrong = 0
  · rw [hw] at hf
    have h4 := (rdWord_size l).2.1 hw
    by_cases hv : nan32 (rdWord l).val = true ∧ (rdWord l).val ≠ 2143289344
    · refine (rfloat_B (Q := fun w' => RR w' p l (if E = 0 then 26 else E) ∧ Sole p w w') p _ _ w h.l hf (fun w => rfrom32_bad _ w hlt hv.1 hv.2) (fun w1 hB => tk_bad p E 26 l w h (by decide) 4 w1 hB)).mono ?_
      exact fun e w' hp => RPost.bad (F := 26) (by unfold rdFloat; rw [if_neg (by simp [hw]), if_pos hv]) (by decide) hp
    · obtain ⟨b, hb⟩ : ∃ b, decide (E = 0) = b := ⟨_, rfl⟩
      have hv2 : nan32 (rdWord l).val = false ∨ (rdWord l).val = 2143289344 := by
        by_cases hq : (rdWord l).val = 2143289344
        · exact .inr hq
        · left
          cases hn : nan32 (rdWord l).val
          · rfl
          · exact absurd ⟨hn, hq⟩ hv
      refine (rfloat_C (Q := fun w' => RR w' p (if b then l.drop 4 else l) E ∧ Sole p w w') p _ _ b _ w h.l hf (fun w => rfrom32_ok _ w hlt hv2) (fun w1 hB => tk_good p 4 E l b w h hb h4 w1 hB)).mono ?_
      intro e w' hp
      exact RPost.good (k := 4) (x := (rdWord l).val) b hb (by unfold rdFloat; rw [if_neg (by simp [hw]), if_neg hv]) hp
  · have hz : (rdWord l).val = 0 := by
      unfold rdWord at hw ⊢
      split
      · rfl
      · rename_i h2; rw [if_neg h2] at hw; exact absurd rfl hw
    rw [trW_ne hw, hz] at hf
    have ht := tk_bad p E _ l w h hw 4
    rw [trW_ne hw] at ht
    refine (rfloat_A (Q := fun w' => RR w' p l (if E = 0 then (rdWord l).wrong else E) ∧ Sole p w w') p _ _ w h.l hf (fun w => rfrom32_ok 0 w (by decide) (.inl (by decide))) ht).mono ?_
    exact fun e w' hp => RPost.bad (F := (rdWord l).wrong) (by unfold rdFloat; rw [if_pos hw]) hw hp

def rdDouble (l : List UInt8) : Rd Nat := if (rdHyper l).wrong ≠ 0 then ⟨(rdHyper l).wrong, 8, 0⟩ else if nan64 (rdHyper l).val = true ∧ (rdHyper l).val ≠ 9221120237041090560 then ⟨26, 8, 0⟩ else ⟨0, 8, (rdHyper l).val⟩

theorem rdouble_A {Q : World → Prop} (p : Nat) (x : Value) (s : ByteArray) (w : World) (h0 : w.cell? ⟨p, 0, none⟩ = some (.string s))
    (H1 : Hid (Calls Tryz.prog 62 #[.string s] w fun e w' => e = .returned (.tuple #[.int .u64 0, .iface 80 x]) ∧ Below w.heap.size w w'))
    (H2 : Hid (∀ w, Calls Tryz.prog 65 #[.int .u64 0] w fun e w' => e = .returned (.tuple #[.float .f64 0, .int .i64 0]) ∧ w' = w))
    (H3 : Hid (∀ w1, Below w.heap.size w w1 → Calls Tryz.prog 56 #[.pointer (some ⟨p, 0, none⟩), .int .i64 8, .iface 80 x] w1 fun e w' => e = .returned (.bool false) ∧ Q w')) :
    Calls Tryz.prog 34 #[.pointer (some ⟨p, 0, none⟩)] w fun e w' => e = .returned (.float .f64 0) ∧ Q w' := by
  have q := eql_iface_rd x
  go_enter Tryz.func34, Tryz.ntmps34
  go_wp2_with fail
  refine H1.out.mono ?_
  rintro e w1 ⟨rfl, hB⟩
  have HB : Hid (Below w.heap.size w w1) := hB
  clear hB
  go_wp2_with fail
  refine (H2.out _).mono ?_
  rintro e w2 ⟨rfl, hw⟩
  have hw1 := hw.symm
  clear hw
  subst hw1
  go_wp2_with fail
  refine (H3.out _ HB.out).mono ?_
  rintro e w2 ⟨rfl, hQ⟩
  have HQ : Hid (Q w2) := hQ
  clear hQ
  go_wp2
  go_ret
  exact ⟨rfl, HQ.out⟩
theorem rdouble_B {Q : World → Prop} (p : Nat) (n : Int) (s : ByteArray) (w : World) (h0 : w.cell? ⟨p, 0, none⟩ = some (.string s))
    (H1 : Hid (Calls Tryz.prog 62 #[.string s] w fun e w' => e = .returned (.tuple #[.int .u64 n, .nilIface]) ∧ Below w.heap.size w w'))
    (H2 : Hid (∀ w, Calls Tryz.prog 65 #[.int .u64 n] w fun e w' => e = .returned (.tuple #[.float .f64 0, .int .i64 10]) ∧ w' = w))
    (H3 : Hid (∀ w1, Below w.heap.size w w1 → Calls Tryz.prog 56 #[.pointer (some ⟨p, 0, none⟩), .int .i64 8, .iface 80 (.agg #[.int .i64 26])] w1 fun e w' => e = .returned (.bool false) ∧ Q w')) :
    Calls Tryz.prog 34 #[.pointer (some ⟨p, 0, none⟩)] w fun e w' => e = .returned (.float .f64 0) ∧ Q w' := by
  go_enter Tryz.func34, Tryz.ntmps34
  go_wp2_with fail
  refine H1.out.mono ?_
  rintro e w1 ⟨rfl, hB⟩
  have HB : Hid (Below w.heap.size w w1) := hB
  clear hB
  go_wp2_with fail
  refine (H2.out _).mono ?_
  rintro e w2 ⟨rfl, hw⟩
  have hw1 := hw.symm
  clear hw
  subst hw1
  go_wp2_with fail
  refine (H3.out _ HB.out).mono ?_
  rintro e w2 ⟨rfl, hQ⟩
  have HQ : Hid (Q w2) := hQ
  clear hQ
  go_wp2
  go_ret
  exact ⟨rfl, HQ.out⟩
theorem rdouble_C {Q : World → Prop} (p : Nat) (n : Int) (x : Nat) (b : Bool) (s : ByteArray) (w : World) (h0 : w.cell? ⟨p, 0, none⟩ = some (.string s))
    (H1 : Hid (Calls Tryz.prog 62 #[.string s] w fun e w' => e = .returned (.tuple #[.int .u64 n, .nilIface]) ∧ Below w.heap.size w w'))
    (H2 : Hid (∀ w, Calls Tryz.prog 65 #[.int .u64 n] w fun e w' => e = .returned (.tuple #[.float .f64 x, .int .i64 0]) ∧ w' = w))
    (H3 : Hid (∀ w1, Below w.heap.size w w1 → Calls Tryz.prog 56 #[.pointer (some ⟨p, 0, none⟩), .int .i64 8, .nilIface] w1 fun e w' => e = .returned (.bool b) ∧ Q w')) :
    Calls Tryz.prog 34 #[.pointer (some ⟨p, 0, none⟩)] w fun e w' => e = .returned (.float .f64 (if b then x else 0)) ∧ Q w' := by
  cases b
  · go_enter Tryz.func34, Tryz.ntmps34
    go_wp2_with fail
    refine H1.out.mono ?_
    rintro e w1 ⟨rfl, hB⟩
    have HB : Hid (Below w.heap.size w w1) := hB
    clear hB
    go_wp2_with fail
    refine (H2.out _).mono ?_
    rintro e w2 ⟨rfl, hw⟩
    have hw1 := hw.symm
    clear hw
    subst hw1
    go_wp2_with fail
    refine (H3.out _ HB.out).mono ?_
    rintro e w2 ⟨rfl, hQ⟩
    have HQ : Hid (Q w2) := hQ
    clear hQ
    go_wp2
    go_ret
    exact ⟨rfl, HQ.out⟩
  · go_enter Tryz.func34, Tryz.ntmps34
    go_wp2_with fail
    refine H1.out.mono ?_
    rintro e w1 ⟨rfl, hB⟩
    have HB : Hid (Below w.heap.size w w1) := hB
    clear hB
    go_wp2_with fail
    refine (H2.out _).mono ?_
    rintro e w2 ⟨rfl, hw⟩
    have hw1 := hw.symm
    clear hw
    subst hw1
    go_wp2_with fail
    refine (H3.out _ HB.out).mono ?_
    rintro e w2 ⟨rfl, hQ⟩
    have HQ : Hid (Q w2) := hQ
    clear hQ
    go_wp2
    go_ret
    exact ⟨rfl, HQ.out⟩

theorem rdouble_any (p : Nat) (l : List UInt8) (E : Int) (w : World) (h : RR w p l E) : Calls Tryz.prog 34 #[.pointer (some ⟨p, 0, none⟩)] w (RPost p l E 0 rdDouble (fun n => .float .f64 n) w) := by
  have hf := frontHyper_any l w
  have hlt := (rdHyper_size l).2.2
  by_cases hw : (rdHyper l).wrong = 0
  · rw [hw] at hf
    have h4 := (rdHyper_size l).2.1 hw
    by_cases hv : nan64 (rdHyper l).val = true ∧ (rdHyper l).val ≠ 9221120237041090560
    · refine (rdouble_B (Q := fun w' => RR w' p l (if E = 0 then 26 else E) ∧ Sole p w w') p _ _ w h.l hf (fun w => rfrom64_bad _ w hlt hv.1 hv.2) (fun w1 hB => tk_bad p E 26 l w h (by decide) 8 w1 hB)).mono ?_
      exact fun e w' hp => RPost.bad (F := 26) (by unfold rdDouble; rw [if_neg (by simp [hw]), if_pos hv]) (by decide) hp
    · obtain ⟨b, hb⟩ : ∃ b, decide (E = 0) = b := ⟨_, rfl⟩
      have hv2 : nan64 (rdHyper l).val = false ∨ (rdHyper l).val = 9221120237041090560 := by
        by_cases hq : (rdHyper l).val = 9221120237041090560
        · exact .inr hq
        · left
          cases hn : nan64 (rdHyper l).val
          · rfl
          · exact absurd ⟨hn, hq⟩ hv
      refine (rdouble_C (Q := fun w' => RR w' p (if b then l.drop 8 else l) E ∧ Sole p w w') p _ _ b _ w h.l hf (fun w => rfrom64_ok _ w hlt hv2) (fun w1 hB => tk_good p 8 E l b w h hb h4 w1 hB)).mono ?_
      intro e w' hp
      exact RPost.good (k := 8) (x := (rdHyper l).val) b hb (by unfold rdDouble; rw [if_neg (by simp [hw]), if_neg hv]) hp
  · have hz : (rdHyper l).val = 0 := by
      unfold rdHyper at hw ⊢
      split
      · rfl
      · rename_i h2; rw [if_neg h2] at hw; exact absurd rfl hw
    rw [trW_ne hw, hz] at hf
    have ht := tk_bad p E _ l w h hw 8
    rw [trW_ne hw] at ht
    refine (rdouble_A (Q := fun w' => RR w' p l (if E = 0 then (rdHyper l).wrong else E) ∧ Sole p w w') p _ _ w h.l hf (fun w => rfrom64_ok 0 w (by decide) (.inl (by decide))) ht).mono ?_
    exact fun e w' hp => RPost.bad (F := (rdHyper l).wrong) (by unfold rdDouble; rw [if_pos hw]) hw hp

end Go.Proofs.YtlkhgnjljdbhnabGreatDoor
namespace Go.Proofs.YtlkhgnjljdbhnabGreatDoor
open Go.RowKit
theorem padding_least (w : World) : Calls Tryz.prog 53 #[.int .i64 (-9223372036854775808)] w fun e w' => e = .returned (.string ⟨#[]⟩) ∧ w' = w := by
  have e : bits .and .i64 (wrap64 9223372036854775808) 3 = 0 := by kernel_rfl
  go_enter Tryz.func53, Tryz.ntmps53
  go_wp2
  go_ret
  refine ⟨?_, rfl⟩
  first | rfl | (rw [← show (0 : Int).toNat = 0 from rfl, ← e]; rfl)
/-- the padding of any number: at most three bytes -/
theorem padding_some (n : Int) (h0 : -9223372036854775808 ≤ n) (h1 : n ≤ 9223372036854775807) : ∃ P : List UInt8, P.length ≤ 3 ∧ ∀ w, Calls Tryz.prog 53 #[.int .i64 n] w fun e w' => e = .returned (.string ⟨P.toArray⟩) ∧ w' = w := by
  by_cases hn : n = -9223372036854775808
  · subst hn; exact ⟨[], by decide, padding_least⟩
  · obtain ⟨z, hz⟩ : ∃ z : Nat, (-n) % 4 = (z : Int) := ⟨((-n) % 4).toNat, by omega⟩
    refine ⟨List.replicate z 0, by rw [List.length_replicate]; omega, fun w => ?_⟩
    have r := padding_rd_core n (z : Int) w (by omega) h1 (by rw [i64_and3_rd, hz]) (by omega) (by omega)
    rw [Int.toNat_natCast, noughts3_rd _ (by omega)] at r
    exact r

theorem Sole.below_after {p : Nat} {a b c : World} (h : Sole p a b) (k : Below b.heap.size b c) : Sole p a c := h.trans (Sole.of_below k)

set_option maxRecDepth 4000 in
theorem rfixed_A {Q : World → Prop} (p : Nat) (n : Int) (V : Value) (s t P : ByteArray) (w : World) (h0 : w.cell? ⟨p, 0, none⟩ = some (.string s))
    (H1 : Hid (Calls Tryz.prog 57 #[.string s, .int .i64 n] w fun e w' => e = .returned (.tuple #[.string t, V]) ∧ Below w.heap.size w w'))
    (H2 : Hid (∀ w, Calls Tryz.prog 53 #[.int .i64 n] w fun e w' => e = .returned (.string P) ∧ w' = w))
    (H3 : Hid (∀ z w1, Below w.heap.size w w1 → Calls Tryz.prog 56 #[.pointer (some ⟨p, 0, none⟩), .int .i64 z, V] w1 fun e w' => e = .returned (.bool false) ∧ Q w')) :
    Calls Tryz.prog 22 #[.pointer (some ⟨p, 0, none⟩), .int .i64 n] w fun e w' => e = .returned (.string ⟨#[]⟩) ∧ Q w' := by
  go_enter Tryz.func22, Tryz.ntmps22
  go_wp2_with fail
  refine H1.out.mono ?_
  rintro e w1 ⟨rfl, hB⟩
  have HB : Hid (Below w.heap.size w w1) := hB
  clear hB
  go_wp2_with fail
  refine (H2.out _).mono ?_
  rintro e w2 ⟨rfl, hw⟩
  have hw1 := hw.symm
  clear hw
  subst hw1
  go_wp2_with fail
  refine (H3.out _ _ HB.out).mono ?_
  rintro e w2 ⟨rfl, hQ⟩
  have HQ : Hid (Q w2) := hQ
  clear hQ
  go_wp2
  go_ret
  exact ⟨rfl, HQ.out⟩

set_option maxRecDepth 4000 in
theorem rfixed_B {Q : World → Prop} (p : Nat) (n z : Int) (b : Bool) (s t P : ByteArray) (w : World) (h0 : w.cell? ⟨p, 0, none⟩ = some (.string s))
    (hn0 : 0 ≤ n) (hn1 : n ≤ 4294967295) (hP : (P.size : Int) ≤ 3) (hz : n + (P.size : Int) = z)
    (H1 : Hid (Calls Tryz.prog 57 #[.string s, .int .i64 n] w fun e w' => e = .returned (.tuple #[.string t, .nilIface]) ∧ Below w.heap.size w w'))
    (H2 : Hid (∀ w, Calls Tryz.prog 53 #[.int .i64 n] w fun e w' => e = .returned (.string P) ∧ w' = w))
    (H3 : Hid (∀ w1, Below w.heap.size w w1 → Calls Tryz.prog 56 #[.pointer (some ⟨p, 0, none⟩), .int .i64 z, .nilIface] w1 fun e w' => e = .returned (.bool b) ∧ Q w'))
    (H4 : Hid (∀ w, Calls Tryz.prog 58 #[.string t] w fun e w' => e = .returned (.string t) ∧ Below w.heap.size w w'))
    (HQB : Hid (∀ a c, Q a → Below a.heap.size a c → Q c)) :
    Calls Tryz.prog 22 #[.pointer (some ⟨p, 0, none⟩), .int .i64 n] w fun e w' => e = .returned (.string (if b then t else ⟨#[]⟩)) ∧ Q w' := by
  cases b
  · go_enter Tryz.func22, Tryz.ntmps22
    go_wp2_with fail
    refine H1.out.mono ?_
    rintro e w1 ⟨rfl, hB⟩
    have HB : Hid (Below w.heap.size w w1) := hB
    clear hB
    go_wp2_with fail
    refine (H2.out _).mono ?_
    rintro e w2 ⟨rfl, hw⟩
    have hw1 := hw.symm
    clear hw
    subst hw1
    go_wp2_with fail
    refine (H3.out _ HB.out).mono ?_
    rintro e w2 ⟨rfl, hQ⟩
    have HQ : Hid (Q w2) := hQ
    clear hQ
    go_wp2
    go_ret
    exact ⟨rfl, HQ.out⟩
  · go_enter Tryz.func22, Tryz.ntmps22
    go_wp2_with fail
    refine H1.out.mono ?_
    rintro e w1 ⟨rfl, hB⟩
    have HB : Hid (Below w.heap.size w w1) := hB
    clear hB
    go_wp2_with fail
    refine (H2.out _).mono ?_
    rintro e w2 ⟨rfl, hw⟩
    have hw1 := hw.symm
    clear hw
    subst hw1
    go_wp2_with fail
    refine (H3.out _ HB.out).mono ?_
    rintro e w2 ⟨rfl, hQ⟩
    have HQ : Hid (Q w2) := hQ
    clear hQ
    go_wp2_with fail
    refine (H4.out _).mono ?_
    rintro e w3 ⟨rfl, hB3⟩
    have HQ3 : Hid (Q w3) := HQB.out _ _ HQ.out hB3
    clear hB3
    go_wp2
    go_ret
    exact ⟨rfl, HQ3.out⟩

theorem RR.sole_below {p : Nat} {l : List UInt8} {E : Int} {w : World} : ∀ a c : World, (RR a p l E ∧ Sole p w a) → Below a.heap.size a c → (RR c p l E ∧ Sole p w c) :=
  fun _ _ h k => ⟨h.1.below k, h.2.below_after k⟩

theorem Bs_size (l : List UInt8) : (⟨l.toArray⟩ : ByteArray).size = l.length := by simp [ByteArray.size]

theorem rdText_size (n : Nat) (l : List UInt8) : (rdText n l).size = n + pads n := by
  unfold rdText; split
  · rfl
  · split <;> rfl

theorem clone_rd (l : List UInt8) (hl : l.length ≤ 281474976710656) (w : World) : Calls Tryz.prog 58 #[.string ⟨l.toArray⟩] w fun e w' => e = .returned (.string ⟨l.toArray⟩) ∧ Below w.heap.size w w' := clone_any _ w (by rw [Bs_size]; exact hl)

theorem rd_eta {α : Type} (r : Rd α) : r = ⟨r.wrong, r.size, r.val⟩ := rfl

theorem rfixed_any (p : Nat) (n : Int) (l : List UInt8) (E : Int) (w : World) (h : RR w p l E) (h0 : -9223372036854775808 ≤ n) (h1 : n ≤ 9223372036854775807) :
    Calls Tryz.prog 22 #[.pointer (some ⟨p, 0, none⟩), .int .i64 n] w (RPost p l E [] (rdFixed n) (fun s => Bs s) w) := by
  have hf := frontText_any n l w
  by_cases hw : (rdFixed n l).wrong = 0
  · have ho := one_fixed n l hw
    rw [hw] at hf
    obtain ⟨k, rfl⟩ : ∃ k : Nat, n = (k : Int) := ⟨n.toNat, by
      have := ho.2.2; omega⟩
    have hk : (k : Int) ≤ 4294967295 := ho.2.2.2
    have hs : (rdFixed k l).size = k + pads k := by
      unfold rdFixed; rw [if_neg (by omega), Int.toNat_natCast]; exact rdText_size k l
    have hle := ho.1
    rw [hs] at hle
    have hvl : (rdFixed k l).val.length ≤ 281474976710656 := by have := ho.2.2.1; omega
    obtain ⟨b, hb⟩ : ∃ b, decide (E = 0) = b := ⟨_, rfl⟩
    have hp := padB_len k
    have hp3 : pads k ≤ 3 := by unfold pads; omega
    refine (rfixed_B (Q := fun w' => RR w' p (if b then l.drop (k + pads k) else l) E ∧ Sole p w w') p k ((k + pads k : Nat) : Int) b _ _ ⟨(padB k).toArray⟩ w h.l (by omega) hk (by rw [Bs_size]; omega) (by rw [Bs_size]; omega) hf
      (fun w => padding_rd k w (by omega)) (fun w1 hB => tk_good p (k + pads k) E l b w h hb hle w1 hB) (clone_rd _ hvl) RR.sole_below).mono ?_
    intro e w' hp
    refine RPost.good (k := k + pads k) (x := (rdFixed k l).val) b hb (by rw [rd_eta (rdFixed k l), hw, hs]) ?_
    refine ⟨?_, hp.2⟩
    rw [hp.1]
    cases b <;> rfl
  · obtain ⟨P, _, hP⟩ := padding_some n h0 h1
    refine (rfixed_A (Q := fun w' => RR w' p l (if E = 0 then (rdFixed n l).wrong else E) ∧ Sole p w w') p n _ _ _ _ w h.l hf hP (tk_bad p E _ l w h hw)).mono ?_
    exact fun e w' hp => RPost.bad rfl hw hp

end Go.Proofs.YtlkhgnjljdbhnabGreatDoor
