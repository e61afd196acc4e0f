/- PaceDoubles: its walk. -/
import Derived.Test.YtpimdiliibokbaaDdWe
import Derived.Deep.CutBlock
import Derived.Deep.CutRange
namespace Go.Proofs.Ytpimdiliibokbaa
open Go.RowKit
theorem wrap64_is (x : Int) : wrap64 x = IntKind.i64.wrap x := by unfold wrap64; exact (IntKind.wrap_i64 x).symm
theorem dbl_last (c : Int) : ∀ (k : Nat) (v : Int), dbl c (k + 1) v = if dbl c k v < c then 2 * dbl c k v else dbl c k v
  | 0, v => rfl
  | k + 1, v => by
    by_cases h : v < c
    · rw [dbl_step h, dbl_last c k (2 * v), dbl_step h]
    · rw [dbl_stop h, dbl_stop h, if_neg h]
theorem dbl_ge (c : Int) : ∀ (k : Nat) (v : Int), 1 ≤ v → v ≤ dbl c k v
  | 0, v, _ => Int.le_refl v
  | k + 1, v, h => by
    unfold dbl
    split
    · have := dbl_ge c k (2 * v) (by omega); omega
    · omega
theorem dbl_far (c : Int) : ∀ (k : Nat) (v : Int), 1 ≤ v → c ≤ dbl c k v ∨ v + k ≤ dbl c k v
  | 0, v, _ => .inr (by unfold dbl; omega)
  | k + 1, v, h => by
    unfold dbl
    split
    · rcases dbl_far c k (2 * v) (by omega) with q | q
      · exact .inl q
      · right; omega
    · left; omega
section
variable {b c t : Int}
theorem wait_first (h : rightP b c t = true) (n : Int) (hn : n ≤ 0) : waitP b c t n = b := by
  have := right_is h
  unfold waitP
  rw [if_pos h, show n.toNat = 0 by omega]
  show min b c = b
  omega
theorem wait_next (h : rightP b c t = true) (k : Nat) : waitP b c t ((k : Int) + 1) = min (2 * waitP b c t k) c := by
  have := right_is h
  have hg := dbl_ge c k b (by omega)
  unfold waitP
  rw [if_pos h, if_pos h, show ((k : Int) + 1).toNat = k + 1 by omega, Int.toNat_natCast, dbl_last]
  generalize dbl c k b = D at *
  split <;> omega
theorem wait_ge (h : rightP b c t = true) (n : Int) : b ≤ waitP b c t n ∧ waitP b c t n ≤ c := by
  have := right_is h
  have hg := dbl_ge c n.toNat b (by omega)
  unfold waitP
  rw [if_pos h]
  omega
theorem wait_far (h : rightP b c t = true) : waitP b c t 1099511627776 = c := by
  have := right_is h
  have hg := dbl_far c (1099511627776 : Int).toNat b (by omega)
  unfold waitP
  rw [if_pos h]
  have e : (((1099511627776 : Int).toNat : Nat) : Int) = 1099511627776 := rfl
  rw [e] at hg
  generalize dbl c (1099511627776 : Int).toNat b = D at *
  omega
theorem tot_ge (h : rightP b c t = true) : ∀ k : Nat, (k : Int) * b ≤ totP b c t k ∧ totP b c t k ≤ (k : Int) * c
  | 0 => by simp [totP]
  | k + 1 => by
    have h1 := tot_ge h k
    have h2 := wait_ge h k
    have e1 : ((k + 1 : Nat) : Int) * b = (k : Int) * b + b := by rw [Int.natCast_add, Int.add_mul]; simp
    have e2 : ((k + 1 : Nat) : Int) * c = (k : Int) * c + c := by rw [Int.natCast_add, Int.add_mul]; simp
    rw [e1, e2]
    unfold totP
    omega
theorem mul_bound {t x : Int} (h1 : 1 ≤ t) (h2 : t ≤ 32) (h3 : 1 ≤ x) (h4 : x ≤ 1048576) : 0 ≤ t * x ∧ t * x ≤ 33554432 := by
  have a := Int.mul_le_mul h2 h4 (by omega) (by omega : (0 : Int) ≤ 32)
  have b := Int.mul_nonneg (by omega : (0 : Int) ≤ t) (by omega : (0 : Int) ≤ x)
  omega
end
def mayD (b c t : Int) : Bool := decide (1 ≤ b) && decide (b ≤ c) && decide (c ≤ 1048576) && decide (1 ≤ t) && decide (t ≤ 32)
theorem mayD_is (b c t : Int) : mayD b c t = rightP b c t := by
  unfold mayD rightP inB
  by_cases h1 : 1 ≤ b <;> by_cases h2 : b ≤ c <;> by_cases h3 : c ≤ 1048576 <;> by_cases h4 : 1 ≤ t <;> by_cases h5 : t ≤ 32 <;> simp [h1, h2, h3, h4, h5]
  omega
set_option maxHeartbeats 1000000 in
set_option maxRecDepth 8000 in
theorem doubles_no (b c t : Int) (hr : rightP b c t = false) (w : World) : Calls Try.prog 5 #[paV b c t] w fun e w' => e = .returned (.bool true) ∧ Below w.heap.size w w' := by
  obtain ⟨w0, hw0⟩ : ∃ w0, w.alloc (paC b c t) = w0 := ⟨_, rfl⟩
  have HB : Hid (Box w w0 w.heap.size b c t) := by rw [← hw0]; exact Box.mk' w b c t
  obtain ⟨A, hA⟩ : ∃ A, w.heap.size = A := ⟨_, rfl⟩
  rw [hA] at HB ⊢
  have hm := mayD_is b c t
  rw [hr] at hm
  have HT : Hid (totalP b c t = 0) := by unfold totalP; rw [hr]; exact rfl
  have HW : Hid (∀ n, waitP b c t n = 0) := fun n => by unfold waitP; rw [hr]; rfl
  have HR := hid hr
  clear hr
  unfold mayD at hm
  cases h1 : decide (1 ≤ b)
  · clear hm
    go_enter Try.func5, Try.ntmps5
    go_wp2_with fail
    refine (awake_any w0).mono ?_
    rintro _ w1 ⟨rfl, e1⟩
    have HB1 := hid (HB.out.on e1)
    clear e1 HB hw0
    have c0 := HB1.out.c0
    have c1 := HB1.out.c1
    have c2 := HB1.out.c2
    go_wp2_with fail
    refine (right_any w1 b c t).mono ?_
    rintro _ w2 ⟨rfl, e1⟩
    have HB2 := hid (HB1.out.on e1)
    clear e1 HB1 c0 c1 c2
    rw [HR.out]
    have c0 := HB2.out.c0
    have c1 := HB2.out.c1
    have c2 := HB2.out.c2
    go_wp2_with fail
    refine (total_any w2 b c t).mono ?_
    rintro _ w3 ⟨rfl, e1⟩
    have HB3 := hid (HB2.out.on e1)
    clear e1 HB2 c0 c1 c2
    rw [HT.out]
    have c0 := HB3.out.c0
    have c1 := HB3.out.c1
    have c2 := HB3.out.c2
    go_wp2_with fail
    refine (wait_any w3 b c t 0 (by omega)).mono ?_
    rintro _ w4 ⟨rfl, e1⟩
    have HB4 := hid (HB3.out.on e1)
    clear e1 HB3 c0 c1 c2
    rw [HW.out]
    have c0 := HB4.out.c0
    have c1 := HB4.out.c1
    have c2 := HB4.out.c2
    go_wp2_with fail
    refine (wait_any w4 b c t 5 (by omega)).mono ?_
    rintro _ w5 ⟨rfl, e1⟩
    have HB5 := hid (HB4.out.on e1)
    clear e1 HB4 c0 c1 c2
    rw [HW.out]
    have c0 := HB5.out.c0
    have c1 := HB5.out.c1
    have c2 := HB5.out.c2
    have HE := hid HB5.out.be
    go_wp2
    go_ret
    exact ⟨rfl, HE.out⟩
  cases h2 : decide (b ≤ c)
  · clear hm
    go_enter Try.func5, Try.ntmps5
    go_wp2_with fail
    refine (awake_any w0).mono ?_
    rintro _ w1 ⟨rfl, e1⟩
    have HB1 := hid (HB.out.on e1)
    clear e1 HB hw0
    have c0 := HB1.out.c0
    have c1 := HB1.out.c1
    have c2 := HB1.out.c2
    go_wp2_with fail
    refine (right_any w1 b c t).mono ?_
    rintro _ w2 ⟨rfl, e1⟩
    have HB2 := hid (HB1.out.on e1)
    clear e1 HB1 c0 c1 c2
    rw [HR.out]
    have c0 := HB2.out.c0
    have c1 := HB2.out.c1
    have c2 := HB2.out.c2
    go_wp2_with fail
    refine (total_any w2 b c t).mono ?_
    rintro _ w3 ⟨rfl, e1⟩
    have HB3 := hid (HB2.out.on e1)
    clear e1 HB2 c0 c1 c2
    rw [HT.out]
    have c0 := HB3.out.c0
    have c1 := HB3.out.c1
    have c2 := HB3.out.c2
    go_wp2_with fail
    refine (wait_any w3 b c t 0 (by omega)).mono ?_
    rintro _ w4 ⟨rfl, e1⟩
    have HB4 := hid (HB3.out.on e1)
    clear e1 HB3 c0 c1 c2
    rw [HW.out]
    have c0 := HB4.out.c0
    have c1 := HB4.out.c1
    have c2 := HB4.out.c2
    go_wp2_with fail
    refine (wait_any w4 b c t 5 (by omega)).mono ?_
    rintro _ w5 ⟨rfl, e1⟩
    have HB5 := hid (HB4.out.on e1)
    clear e1 HB4 c0 c1 c2
    rw [HW.out]
    have c0 := HB5.out.c0
    have c1 := HB5.out.c1
    have c2 := HB5.out.c2
    have HE := hid HB5.out.be
    go_wp2
    go_ret
    exact ⟨rfl, HE.out⟩
  cases h3 : decide (c ≤ 1048576)
  · clear hm
    go_enter Try.func5, Try.ntmps5
    go_wp2_with fail
    refine (awake_any w0).mono ?_
    rintro _ w1 ⟨rfl, e1⟩
    have HB1 := hid (HB.out.on e1)
    clear e1 HB hw0
    have c0 := HB1.out.c0
    have c1 := HB1.out.c1
    have c2 := HB1.out.c2
    go_wp2_with fail
    refine (right_any w1 b c t).mono ?_
    rintro _ w2 ⟨rfl, e1⟩
    have HB2 := hid (HB1.out.on e1)
    clear e1 HB1 c0 c1 c2
    rw [HR.out]
    have c0 := HB2.out.c0
    have c1 := HB2.out.c1
    have c2 := HB2.out.c2
    go_wp2_with fail
    refine (total_any w2 b c t).mono ?_
    rintro _ w3 ⟨rfl, e1⟩
    have HB3 := hid (HB2.out.on e1)
    clear e1 HB2 c0 c1 c2
    rw [HT.out]
    have c0 := HB3.out.c0
    have c1 := HB3.out.c1
    have c2 := HB3.out.c2
    go_wp2_with fail
    refine (wait_any w3 b c t 0 (by omega)).mono ?_
    rintro _ w4 ⟨rfl, e1⟩
    have HB4 := hid (HB3.out.on e1)
    clear e1 HB3 c0 c1 c2
    rw [HW.out]
    have c0 := HB4.out.c0
    have c1 := HB4.out.c1
    have c2 := HB4.out.c2
    go_wp2_with fail
    refine (wait_any w4 b c t 5 (by omega)).mono ?_
    rintro _ w5 ⟨rfl, e1⟩
    have HB5 := hid (HB4.out.on e1)
    clear e1 HB4 c0 c1 c2
    rw [HW.out]
    have c0 := HB5.out.c0
    have c1 := HB5.out.c1
    have c2 := HB5.out.c2
    have HE := hid HB5.out.be
    go_wp2
    go_ret
    exact ⟨rfl, HE.out⟩
  cases h4 : decide (1 ≤ t)
  · clear hm
    go_enter Try.func5, Try.ntmps5
    go_wp2_with fail
    refine (awake_any w0).mono ?_
    rintro _ w1 ⟨rfl, e1⟩
    have HB1 := hid (HB.out.on e1)
    clear e1 HB hw0
    have c0 := HB1.out.c0
    have c1 := HB1.out.c1
    have c2 := HB1.out.c2
    go_wp2_with fail
    refine (right_any w1 b c t).mono ?_
    rintro _ w2 ⟨rfl, e1⟩
    have HB2 := hid (HB1.out.on e1)
    clear e1 HB1 c0 c1 c2
    rw [HR.out]
    have c0 := HB2.out.c0
    have c1 := HB2.out.c1
    have c2 := HB2.out.c2
    go_wp2_with fail
    refine (total_any w2 b c t).mono ?_
    rintro _ w3 ⟨rfl, e1⟩
    have HB3 := hid (HB2.out.on e1)
    clear e1 HB2 c0 c1 c2
    rw [HT.out]
    have c0 := HB3.out.c0
    have c1 := HB3.out.c1
    have c2 := HB3.out.c2
    go_wp2_with fail
    refine (wait_any w3 b c t 0 (by omega)).mono ?_
    rintro _ w4 ⟨rfl, e1⟩
    have HB4 := hid (HB3.out.on e1)
    clear e1 HB3 c0 c1 c2
    rw [HW.out]
    have c0 := HB4.out.c0
    have c1 := HB4.out.c1
    have c2 := HB4.out.c2
    go_wp2_with fail
    refine (wait_any w4 b c t 5 (by omega)).mono ?_
    rintro _ w5 ⟨rfl, e1⟩
    have HB5 := hid (HB4.out.on e1)
    clear e1 HB4 c0 c1 c2
    rw [HW.out]
    have c0 := HB5.out.c0
    have c1 := HB5.out.c1
    have c2 := HB5.out.c2
    have HE := hid HB5.out.be
    go_wp2
    go_ret
    exact ⟨rfl, HE.out⟩
  cases h5 : decide (t ≤ 32)
  · clear hm
    go_enter Try.func5, Try.ntmps5
    go_wp2_with fail
    refine (awake_any w0).mono ?_
    rintro _ w1 ⟨rfl, e1⟩
    have HB1 := hid (HB.out.on e1)
    clear e1 HB hw0
    have c0 := HB1.out.c0
    have c1 := HB1.out.c1
    have c2 := HB1.out.c2
    go_wp2_with fail
    refine (right_any w1 b c t).mono ?_
    rintro _ w2 ⟨rfl, e1⟩
    have HB2 := hid (HB1.out.on e1)
    clear e1 HB1 c0 c1 c2
    rw [HR.out]
    have c0 := HB2.out.c0
    have c1 := HB2.out.c1
    have c2 := HB2.out.c2
    go_wp2_with fail
    refine (total_any w2 b c t).mono ?_
    rintro _ w3 ⟨rfl, e1⟩
    have HB3 := hid (HB2.out.on e1)
    clear e1 HB2 c0 c1 c2
    rw [HT.out]
    have c0 := HB3.out.c0
    have c1 := HB3.out.c1
    have c2 := HB3.out.c2
    go_wp2_with fail
    refine (wait_any w3 b c t 0 (by omega)).mono ?_
    rintro _ w4 ⟨rfl, e1⟩
    have HB4 := hid (HB3.out.on e1)
    clear e1 HB3 c0 c1 c2
    rw [HW.out]
    have c0 := HB4.out.c0
    have c1 := HB4.out.c1
    have c2 := HB4.out.c2
    go_wp2_with fail
    refine (wait_any w4 b c t 5 (by omega)).mono ?_
    rintro _ w5 ⟨rfl, e1⟩
    have HB5 := hid (HB4.out.on e1)
    clear e1 HB4 c0 c1 c2
    rw [HW.out]
    have c0 := HB5.out.c0
    have c1 := HB5.out.c1
    have c2 := HB5.out.c2
    have HE := hid HB5.out.be
    go_wp2
    go_ret
    exact ⟨rfl, HE.out⟩
  · simp [h1, h2, h3, h4, h5] at hm
set_option maxHeartbeats 2000000 in
set_option maxRecDepth 8000 in
theorem doubles_yes (b c t : Int) (hr : rightP b c t = true) (w : World) : Calls Try.prog 5 #[paV b c t] w fun e w' => e = .returned (.bool true) ∧ Below w.heap.size w w' := by
  obtain ⟨w0, hw0⟩ : ∃ w0, w.alloc (paC b c t) = w0 := ⟨_, rfl⟩
  have HB : Hid (Box w w0 w.heap.size b c t) := by rw [← hw0]; exact Box.mk' w b c t
  obtain ⟨A, hA⟩ : ∃ A, w.heap.size = A := ⟨_, rfl⟩
  rw [hA] at HB ⊢
  have HI := hid (right_is hr)
  have HR := hid hr
  have h1 : decide (1 ≤ b) = true := by have := HI.out; simp; omega
  have h2 : decide (b ≤ c) = true := by have := HI.out; simp; omega
  have h3 : decide (c ≤ 1048576) = true := by have := HI.out; simp; omega
  have h4 : decide (1 ≤ t) = true := by have := HI.out; simp; omega
  have h5 : decide (t ≤ 32) = true := by have := HI.out; simp; omega
  clear hr
  obtain ⟨Z, f, hf1, hf2⟩ : ∃ (Z : Type) (f : Z → World), (∀ z, Box w (f z) A b c t) ∧ ∀ w', Box w w' A b c t → ∃ z, w' = f z := ⟨{ w' // Box w w' A b c t }, Subtype.val, fun z => z.2, fun w' h => ⟨⟨w', h⟩, rfl⟩⟩
  have HZ := hid (And.intro hf1 hf2)
  clear hf1 hf2
  have cz0 : ∀ z, (f z).cell? ⟨A, 0, none⟩ = some (.int .i64 b) := fun z => (HZ.out.1 z).c0
  have cz1 : ∀ z, (f z).cell? ⟨A, 1, none⟩ = some (.int .i64 c) := fun z => (HZ.out.1 z).c1
  have cz2 : ∀ z, (f z).cell? ⟨A, 2, none⟩ = some (.int .i64 t) := fun z => (HZ.out.1 z).c2
  have H10 : Hid (∀ z, Calls Try.prog 10 #[paV b c t] (f z) fun e w'' => e = .returned (.int .i64 (totalP b c t)) ∧ ∃ z', w'' = f z') := fun z =>
    (total_any (f z) b c t).mono fun e w'' ⟨h1, h2⟩ => ⟨h1, HZ.out.2 _ ((HZ.out.1 z).on h2)⟩
  have H12 : Hid (∀ n : Int, -9223372036854775808 ≤ n ∧ n ≤ 9223372036854775807 → ∀ z, Calls Try.prog 12 #[paV b c t, .int .i64 n] (f z) fun e w'' => e = .returned (.int .i64 (waitP b c t n)) ∧ ∃ z', w'' = f z') := fun n hn z =>
    (wait_any (f z) b c t n hn).mono fun e w'' ⟨h1, h2⟩ => ⟨h1, HZ.out.2 _ ((HZ.out.1 z).on h2)⟩
  go_enter Try.func5, Try.ntmps5
  go_wp2_with fail
  refine (awake_any w0).mono ?_
  rintro _ w1 ⟨rfl, e1⟩
  have HB1 := hid (HB.out.on e1)
  clear e1 HB hw0
  have c0 := HB1.out.c0
  have c1 := HB1.out.c1
  have c2 := HB1.out.c2
  go_wp2_with fail
  refine (right_any w1 b c t).mono ?_
  rintro _ w2 ⟨rfl, e1⟩
  have HB2 := hid (HB1.out.on e1)
  clear e1 HB1 c0 c1 c2
  rw [HR.out]
  obtain ⟨z2, hz2⟩ := HZ.out.2 _ HB2.out
  subst hz2
  go_wp2_with fail
  go_loopw [5, 6, 7] (fun u5 u6 u7 wr => ∃ (k : Nat) (z : Z), u7 = .int .i64 k ∧ u5 = .int .i64 (totP b c t k) ∧ u6 = .int .i64 (if k = 0 then 0 else waitP b c t ((k : Int) - 1)) ∧ (k : Int) ≤ t ∧ wr = f z) (fun _ _ u7 _ => (t - intOf u7).toNat)
  case atStart => exact ⟨0, z2, rfl, rfl, rfl, by have := HI.out; omega, rfl⟩
  case round =>
    obtain ⟨k, z, rfl, rfl, rfl, hk, rfl⟩ := hrel
    by_cases hlt : (k : Int) < t
    · have G12 := hid (H12.out (k : Int) (by have := HI.out; omega) z)
      obtain ⟨v, hv⟩ : ∃ v, waitP b c t (k : Int) = v := ⟨_, rfl⟩
      obtain ⟨s, hs⟩ : ∃ s, totP b c t k = s := ⟨_, rfl⟩
      have HS : Hid (totP b c t (k + 1) = s + v) := by rw [← hs, ← hv]; exact rfl
      have w1' : wrap64 (s + v) = s + v := by
        have a1 := tot_in b c t k
        have a2 := wait_in b c t k
        rw [hs] at a1
        rw [hv] at a2
        have := HI.out
        unfold wrap64; omega
      have w2' : wrap64 ((k : Int) + 1) = (k : Int) + 1 := by have := HI.out; unfold wrap64; omega
      have kv : (v == v) = true := by simp
      rw [hv] at G12
      rw [hs]
      have HK := hid (And.intro hk hlt)
      have HVV := hid hv
      clear hs hk
      by_cases hk0 : k = 0
      · subst hk0
        rw [if_pos rfl]
        have hvb : v = b := by rw [← hv]; exact wait_first HR.out _ (by omega)
        subst hvb
        clear hv
        go_wp2_with fail
        refine G12.out.mono ?_
        rintro _ _ ⟨rfl, z3, rfl⟩
        go_wp2
        go_roundw
        case rel => exact ⟨1, z3, by first | rfl | (rw [w2']; rfl), by rw [HS.out]; first | rfl | rw [w1'], by rw [if_neg (by omega), show ((1 : Nat) : Int) - 1 = ((0 : Nat) : Int) by omega, HVV.out]; first | done | rfl, by have := HK.out; omega, by first | trivial | rfl⟩
        case measure => have := HK.out; first | (show (t - 1).toNat < (t - 0).toNat; omega) | (rw [w2']; show (t - 1).toNat < (t - 0).toNat; omega)
      · rw [if_neg hk0]
        obtain ⟨l, hl⟩ : ∃ l, waitP b c t ((k : Int) - 1) = l := ⟨_, rfl⟩
        have hvl : min (2 * l) c = v := by
          have := wait_next HR.out (k - 1)
          rw [show (((k - 1 : Nat) : Int)) = (k : Int) - 1 by omega, show (k : Int) - 1 + 1 = (k : Int) by omega, hv, hl] at this
          exact this.symm
        have w3' : wrap64 (2 * l) = 2 * l := by
          have a2 := wait_in b c t ((k : Int) - 1)
          rw [hl] at a2
          unfold wrap64; omega
        have hg := (min_go (2 * l) c).trans hvl
        have hk1 : (0 : Int) < (k : Int) := by omega
        rw [hl]
        clear hv hvl hl
        go_wp2_with fail
        refine G12.out.mono ?_
        rintro _ _ ⟨rfl, z3, rfl⟩
        go_wp2
        go_roundw
        case rel => exact ⟨k + 1, z3, by first | rfl | (rw [w2']; rfl), by rw [HS.out]; first | rfl | rw [w1'], by rw [if_neg (by omega), show ((k + 1 : Nat) : Int) - 1 = (k : Int) by omega, HVV.out]; first | done | rfl, by have := HK.out; omega, by first | trivial | rfl⟩
        case measure => have := HK.out; first | (rw [w2']; show (t - ((k : Int) + 1)).toNat < (t - (k : Int)).toNat; omega) | (show (t - ((k : Int) + 1)).toNat < (t - (k : Int)).toNat; omega)
    · have hkt : (k : Int) = t := by omega
      obtain ⟨s, hs⟩ : ∃ s, totP b c t k = s := ⟨_, rfl⟩
      have htt : totalP b c t = s := by unfold totalP; rw [if_pos HR.out, ← hs, show t.toNat = k by omega]
      have hge := tot_ge HR.out k
      rw [hs, hkt] at hge
      have mb := mul_bound (t := t) (x := b) (by have := HI.out; omega) (by have := HI.out; omega) (by have := HI.out; omega) (by have := HI.out; omega)
      have mc := mul_bound (t := t) (x := c) (by have := HI.out; omega) (by have := HI.out; omega) (by have := HI.out; omega) (by have := HI.out; omega)
      obtain ⟨tb, htb⟩ : ∃ tb, t * b = tb := ⟨_, rfl⟩
      obtain ⟨tc, htc⟩ : ∃ tc, t * c = tc := ⟨_, rfl⟩
      rw [htb] at hge mb
      rw [htc] at hge mc
      have w1' : wrap64 (t * b) = tb := by rw [htb]; unfold wrap64; omega
      have w2' : wrap64 (t * c) = tc := by rw [htc]; unfold wrap64; omega
      have v1' : IntKind.i64.wrap (t * b) = tb := by rw [← wrap64_is]; exact w1'
      have v2' : IntKind.i64.wrap (t * c) = tc := by rw [← wrap64_is]; exact w2'
      have d1 : decide (tb ≤ s) = true := by simpa using hge.1
      have d2 : decide (s ≤ tc) = true := by simpa using hge.2
      have ks : (s == s) = true := by simp
      have kb : (b == b) = true := by simp
      have kc : (c == c) = true := by simp
      have G10 := H10
      rw [htt] at G10
      have Ga := hid (H12.out (-1) (by omega))
      rw [wait_first HR.out (-1) (by omega)] at Ga
      have Gb := hid (H12.out 1099511627776 (by omega))
      rw [wait_far HR.out] at Gb
      have HZ1 := hid (HZ.out.2 _ (HZ.out.1 z).drew)
      have instZ : Nonempty Z := ⟨z⟩
      obtain ⟨u, hu⟩ : ∃ u : Int, (if k = 0 then (0 : Int) else waitP b c t ((k : Int) - 1)) = u := ⟨_, rfl⟩
      rw [hs, hu]
      clear hu
      clear hge mb mc htt hs H10 H12 htb htc hkt hk w1' w2'
      go_wp2_with fail
      refine wp_region_class f (by kernel_rfl) (by kernel_rfl) HZ1.out ?_
      repeat (go_big_quiet_step (first | (go_at_call 10; with_reducible exact G10.out _) | (go_at_call 12; with_reducible exact Ga.out _) | (go_at_call 12; with_reducible exact Gb.out _)))
      refine wpQuiet_nil ?_
      rintro _ ⟨z3, rfl⟩
      have HE := hid (HZ.out.1 z3).be
      go_wp2
      go_ret
      exact ⟨rfl, HE.out⟩
theorem doubles_any (b c t : Int) (w : World) : Calls Try.prog 5 #[paV b c t] w fun e w' => e = .returned (.bool true) ∧ Below w.heap.size w w' := by
  cases h : rightP b c t
  · exact doubles_no b c t h w
  · exact doubles_yes b c t h w
end Go.Proofs.Ytpimdiliibokbaa
