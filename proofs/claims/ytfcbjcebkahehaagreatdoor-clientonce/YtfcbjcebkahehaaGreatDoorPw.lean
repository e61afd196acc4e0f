/- Right, Wait, Total of both. -/
import Derived.Test.YtfcbjcebkahehaaGreatDoorZaa
import Derived.WalkKit
import Derived.Below
import Derived.Carry
import Derived.Deep.RegionLaw
import Derived.BigRegion
import Derived.Deep.QuietTactic
import Derived.BigQuiet
import Derived.Deep.RegionHeld3
namespace Go.Proofs.YtfcbjcebkahehaaGreatDoor.Pc
open Go.RowKit
theorem hid {T : Prop} (h : T) : Hid T := h
theorem below_box (w : World) (o : Obj) : Below w.heap.size w (w.alloc o) := (Below.refl _ _).alloc (Nat.le_refl _) _
def inB (n l h : Int) : Bool := decide (l ≤ n) && decide (n ≤ h)
abbrev paV (b c t : Int) : Value := .agg #[.int .i64 b, .int .i64 c, .int .i64 t]
abbrev paC (b c t : Int) : Obj := .cells #[.int .i64 b, .int .i64 c, .int .i64 t] 23
theorem within_any (w : World) (n l h : Int) : Calls Tryz.prog 114 #[.int .i64 n, .int .i64 l, .int .i64 h] w fun e w' => e = .returned (.bool (inB n l h)) ∧ w' = w := by
  unfold inB
  cases h1 : decide (l ≤ n) <;> cases h2 : decide (n ≤ h)
  all_goals (
    go_enter Tryz.func114, Tryz.ntmps114
    go_wp2
    go_ret
    exact ⟨rfl, rfl⟩)
def rightP (b c t : Int) : Bool := inB b 1 1048576 && inB c b 1048576 && inB t 1 32
structure Box (w w0 : World) (A : Nat) (b c t : Int) : Prop where
  be : Below A w w0
  at_ : w0.heap[A]? = some (paC b c t)
  new : A = w.heap.size
theorem Box.mk' (w : World) (b c t : Int) : Box w (w.alloc (paC b c t)) w.heap.size b c t := ⟨below_box _ _, (MapKept.heap_alloc w _).1, rfl⟩
section
variable {w w0 w1 : World} {A : Nat} {b c t : Int}
theorem Box.lt (h : Box w w0 A b c t) : A < w0.heap.size := (Array.getElem?_eq_some_iff.1 h.at_).1
theorem Box.c0 (h : Box w w0 A b c t) : w0.cell? ⟨A, 0, none⟩ = some (.int .i64 b) := by unfold World.cell?; rw [h.at_]; rfl
theorem Box.c1 (h : Box w w0 A b c t) : w0.cell? ⟨A, 1, none⟩ = some (.int .i64 c) := by unfold World.cell?; rw [h.at_]; rfl
theorem Box.c2 (h : Box w w0 A b c t) : w0.cell? ⟨A, 2, none⟩ = some (.int .i64 t) := by unfold World.cell?; rw [h.at_]; rfl
theorem Box.on (h : Box w w0 A b c t) (hb : Below w0.heap.size w0 w1) : Box w w1 A b c t := ⟨h.be.trans (hb.mono (Nat.le_of_lt h.lt)), (hb.block A h.lt).trans h.at_, h.new⟩
end
theorem right_any (w : World) (b c t : Int) : Calls Tryz.prog 74 #[paV b c t] w fun e w' => e = .returned (.bool (rightP b c t)) ∧ Below w.heap.size w w' := by
  obtain ⟨w0, hw0⟩ : ∃ w0, w.alloc (paC b c t) = w0 := ⟨_, rfl⟩
  have HB : Hid (Box w w0 w.heap.size b c t) := by rw [← hw0]; exact Box.mk' w b c t
  obtain ⟨A, hA⟩ : ∃ A, w.heap.size = A := ⟨_, rfl⟩
  rw [hA] at HB ⊢
  have c0 := HB.out.c0
  have c1 := HB.out.c1
  have c2 := HB.out.c2
  have HE := hid HB.out.be
  have H1 := hid (within_any w0 b 1 1048576)
  have H2 := hid (within_any w0 c b 1048576)
  have H3 := hid (within_any w0 t 1 32)
  unfold rightP
  cases h1 : inB b 1 1048576 <;> rw [h1] at H1
  · go_enter Tryz.func74, Tryz.ntmps74
    go_wp2_with fail
    refine H1.out.mono ?_
    rintro _ _ ⟨rfl, rfl⟩
    go_wp2
    go_ret
    exact ⟨rfl, HE.out⟩
  cases h2 : inB c b 1048576 <;> rw [h2] at H2
  · go_enter Tryz.func74, Tryz.ntmps74
    go_wp2_with fail
    refine H1.out.mono ?_
    rintro _ _ ⟨rfl, rfl⟩
    go_wp2_with fail
    refine H2.out.mono ?_
    rintro _ _ ⟨rfl, rfl⟩
    go_wp2
    go_ret
    exact ⟨rfl, HE.out⟩
  generalize inB t 1 32 = q at *
  go_enter Tryz.func74, Tryz.ntmps74
  go_wp2_with fail
  refine H1.out.mono ?_
  rintro _ _ ⟨rfl, rfl⟩
  go_wp2_with fail
  refine H2.out.mono ?_
  rintro _ _ ⟨rfl, rfl⟩
  go_wp2_with fail
  refine H3.out.mono ?_
  rintro _ _ ⟨rfl, rfl⟩
  go_wp2
  go_ret
  exact ⟨rfl, HE.out⟩
theorem dright_any (w : World) (b c t : Int) : Calls Tryz.prog 59 #[paV b c t] w fun e w' => e = .returned (.bool (rightP b c t)) ∧ Below w.heap.size w w' := by
  obtain ⟨w0, hw0⟩ : ∃ w0, w.alloc (paC b c t) = w0 := ⟨_, rfl⟩
  have HB : Hid (Box w w0 w.heap.size b c t) := by rw [← hw0]; exact Box.mk' w b c t
  obtain ⟨A, hA⟩ : ∃ A, w.heap.size = A := ⟨_, rfl⟩
  rw [hA] at HB ⊢
  have c0 := HB.out.c0
  have c1 := HB.out.c1
  have c2 := HB.out.c2
  have HE := hid HB.out.be
  unfold rightP inB
  cases h1 : decide (1 ≤ b)
  · go_enter Tryz.func59, Tryz.ntmps59
    go_wp2
    go_ret
    exact ⟨rfl, HE.out⟩
  cases h2 : decide (b ≤ 1048576)
  · go_enter Tryz.func59, Tryz.ntmps59
    go_wp2
    go_ret
    exact ⟨rfl, HE.out⟩
  cases h3 : decide (b ≤ c)
  · go_enter Tryz.func59, Tryz.ntmps59
    go_wp2
    go_ret
    exact ⟨rfl, HE.out⟩
  cases h4 : decide (c ≤ 1048576)
  · go_enter Tryz.func59, Tryz.ntmps59
    go_wp2
    go_ret
    exact ⟨rfl, HE.out⟩
  cases h5 : decide (1 ≤ t)
  · go_enter Tryz.func59, Tryz.ntmps59
    go_wp2
    go_ret
    exact ⟨rfl, HE.out⟩
  cases h6 : decide (t ≤ 32)
  · go_enter Tryz.func59, Tryz.ntmps59
    go_wp2
    go_ret
    exact ⟨rfl, HE.out⟩
  · go_enter Tryz.func59, Tryz.ntmps59
    go_wp2
    go_ret
    exact ⟨rfl, HE.out⟩
/-- doubled k times, as long as it is below -/
def dbl (c : Int) : Nat → Int → Int
  | 0, v => v
  | k + 1, v => if v < c then dbl c k (2 * v) else v
theorem dbl_stop {c v : Int} (h : ¬ v < c) : ∀ k, dbl c k v = v
  | 0 => rfl
  | k + 1 => by unfold dbl; rw [if_neg h]
theorem dbl_step {c v : Int} (h : v < c) (k : Nat) : dbl c (k + 1) v = dbl c k (2 * v) := by
  conv => lhs; unfold dbl
  rw [if_pos h]
def waitP (b c t n : Int) : Int := if rightP b c t = true then min (dbl c n.toNat b) c else 0
theorem right_is {b c t : Int} (h : rightP b c t = true) : 1 ≤ b ∧ b ≤ c ∧ c ≤ 1048576 ∧ 1 ≤ t ∧ t ≤ 32 := by
  unfold rightP inB at h
  simp at h
  omega
theorem min_go (a b : Int) : (if b < a then b else a) = min a b := by omega
set_option maxRecDepth 8000 in
theorem wait_any (w : World) (b c t n : Int) (hn : -9223372036854775808 ≤ n ∧ n ≤ 9223372036854775807) : Calls Tryz.prog 91 #[paV b c t, .int .i64 n] w fun e w' => e = .returned (.int .i64 (waitP b c t n)) ∧ Below w.heap.size w w' := by
  obtain ⟨w0, hw0⟩ : ∃ w0, w.alloc (paC b c t) = w0 := ⟨_, rfl⟩
  have HB : Hid (Box w w0 w.heap.size b c t) := by rw [← hw0]; exact Box.mk' w b c t
  obtain ⟨A, hA⟩ : ∃ A, w.heap.size = A := ⟨_, rfl⟩
  rw [hA] at HB ⊢
  have c0 := HB.out.c0
  have c1 := HB.out.c1
  have c2 := HB.out.c2
  have HR := hid (right_any w0 b c t)
  unfold waitP
  cases hr : rightP b c t <;> rw [hr] at HR
  · go_enter Tryz.func91, Tryz.ntmps91
    go_wp2_with fail
    refine HR.out.mono ?_
    rintro _ w1 ⟨rfl, e1⟩
    have HE := hid (HB.out.on e1).be
    clear e1
    go_wp2
    go_ret
    exact ⟨rfl, HE.out⟩
  · have HI := hid (right_is hr)
    have HN := hid hn
    rw [if_pos rfl]
    clear hr hn
    go_enter Tryz.func91, Tryz.ntmps91
    go_wp2_with fail
    refine HR.out.mono ?_
    rintro _ w1 ⟨rfl, e1⟩
    have HB1 := hid (HB.out.on e1)
    clear c0 c1 c2 e1 HB hw0
    have c0 := HB1.out.c0
    have c1 := HB1.out.c1
    go_wp2_with fail
    go_loopw [1, 5] (fun u1 u5 wr => ∃ (k v : Int), u1 = .int .i64 k ∧ u5 = .int .i64 v ∧ wr = w1 ∧ 1 ≤ v ∧ v ≤ 2097152 ∧ -9223372036854775808 ≤ k ∧ k ≤ 9223372036854775807 ∧ dbl c k.toNat v = dbl c n.toNat b) (fun u1 _ _ => (intOf u1).toNat)
    case atStart => exact ⟨n, b, rfl, rfl, rfl, by have := HI.out; omega, by have := HI.out; omega, HN.out.1, HN.out.2, rfl⟩
    case round =>
      obtain ⟨k, v, rfl, rfl, rfl, hv1, hv2, hk1, hk2, hd⟩ := hrel
      by_cases hk : 0 < k
      · by_cases hv : v < c
        · have HV := hid (And.intro hv1 (And.intro hv2 (And.intro hk1 hk2)))
          have HD := hid hd
          have w1' : wrap64 (v * 2) = v * 2 := by unfold wrap64; omega
          have w2' : wrap64 (k - 1) = k - 1 := by unfold wrap64; omega
          clear hd hv1 hv2 hk1 hk2
          go_wp2
          go_roundw
          case rel => exact ⟨k - 1, v * 2, by first | rfl | rw [w2'], by first | rfl | rw [w1'], by first | trivial | rfl, by have := HV.out; omega, by have := HV.out; have := HI.out; omega, by have := HV.out; omega, by have := HV.out; omega, by
            rw [← HD.out, show k.toNat = (k - 1).toNat + 1 by omega, dbl_step hv, Int.mul_comm]⟩
          case measure => rw [w2']; show (k - 1).toNat < k.toNat; omega
        · have HE := hid (show min v c = min (dbl c n.toNat b) c by rw [← hd, dbl_stop hv])
          have HBE := hid HB1.out.be
          have hg := min_go v c
          clear hd
          go_wp2
          go_ret
          exact ⟨by rw [← HE.out]; rfl, HBE.out⟩
      · have HE := hid (show min v c = min (dbl c n.toNat b) c by rw [← hd, show k.toNat = 0 by omega]; rfl)
        have HBE := hid HB1.out.be
        have hg := min_go v c
        clear hd
        go_wp2
        go_ret
        exact ⟨by rw [← HE.out]; rfl, HBE.out⟩
set_option maxRecDepth 8000 in
theorem dwait_any (w : World) (b c t n : Int) (hn : -9223372036854775808 ≤ n ∧ n ≤ 9223372036854775807) : Calls Tryz.prog 98 #[paV b c t, .int .i64 n] w fun e w' => e = .returned (.int .i64 (waitP b c t n)) ∧ Below w.heap.size w w' := by
  obtain ⟨w0, hw0⟩ : ∃ w0, w.alloc (paC b c t) = w0 := ⟨_, rfl⟩
  have HB : Hid (Box w w0 w.heap.size b c t) := by rw [← hw0]; exact Box.mk' w b c t
  obtain ⟨A, hA⟩ : ∃ A, w.heap.size = A := ⟨_, rfl⟩
  rw [hA] at HB ⊢
  have c0 := HB.out.c0
  have c1 := HB.out.c1
  have c2 := HB.out.c2
  have HR := hid (dright_any w0 b c t)
  unfold waitP
  cases hr : rightP b c t <;> rw [hr] at HR
  · go_enter Tryz.func98, Tryz.ntmps98
    go_wp2_with fail
    refine HR.out.mono ?_
    rintro _ w1 ⟨rfl, e1⟩
    have HE := hid (HB.out.on e1).be
    clear e1
    go_wp2
    go_ret
    exact ⟨rfl, HE.out⟩
  · have HI := hid (right_is hr)
    have HN := hid hn
    rw [if_pos rfl]
    clear hr hn
    go_enter Tryz.func98, Tryz.ntmps98
    go_wp2_with fail
    refine HR.out.mono ?_
    rintro _ w1 ⟨rfl, e1⟩
    have HB1 := hid (HB.out.on e1)
    clear c0 c1 c2 e1 HB hw0
    have c0 := HB1.out.c0
    have c1 := HB1.out.c1
    go_wp2_with fail
    go_loopw [6, 7] (fun u6 u7 wr => ∃ (i v : Int), u7 = .int .i64 i ∧ u6 = .int .i64 v ∧ wr = w1 ∧ 1 ≤ v ∧ v ≤ 2097152 ∧ 0 ≤ i ∧ (i ≤ n ∨ i = 0) ∧ dbl c (n - i).toNat v = dbl c n.toNat b) (fun _ u7 _ => (n - intOf u7).toNat)
    case atStart => exact ⟨0, b, rfl, rfl, rfl, by have := HI.out; omega, by have := HI.out; omega, by omega, .inr rfl, by rw [Int.sub_zero]⟩
    case round =>
      obtain ⟨i, v, rfl, rfl, rfl, hv1, hv2, hk1, hk2, hd⟩ := hrel
      by_cases hk : i < n
      · by_cases hv : v < c
        · have HV := hid (And.intro hv1 (And.intro hv2 (And.intro hk1 hk2)))
          have HD := hid hd
          have w1' : wrap64 (2 * v) = 2 * v := by unfold wrap64; omega
          have w2' : wrap64 (i + 1) = i + 1 := by have := HN.out; unfold wrap64; omega
          clear hd hv1 hv2 hk1 hk2
          go_wp2
          go_roundw
          case rel => exact ⟨i + 1, 2 * v, by first | rfl | rw [w2'], by first | rfl | rw [w1'], by first | trivial | rfl, by have := HV.out; omega, by have := HV.out; have := HI.out; omega, by have := HV.out; omega, .inl (by omega), by
            rw [← HD.out, show (n - i).toNat = (n - (i + 1)).toNat + 1 by omega, dbl_step hv]⟩
          case measure => first | (rw [w2']; show (n - (i + 1)).toNat < (n - i).toNat; omega) | (show (n - (i + 1)).toNat < (n - i).toNat; omega)
        · have HE := hid (show min v c = min (dbl c n.toNat b) c by rw [← hd, dbl_stop hv])
          have HBE := hid HB1.out.be
          have hg := min_go v c
          clear hd
          go_wp2
          go_ret
          exact ⟨by rw [← HE.out]; rfl, HBE.out⟩
      · have HE := hid (show min v c = min (dbl c n.toNat b) c by rw [← hd, show (n - i).toNat = 0 by omega]; rfl)
        have HBE := hid HB1.out.be
        have hg := min_go v c
        clear hd
        go_wp2
        go_ret
        exact ⟨by rw [← HE.out]; rfl, HBE.out⟩
theorem wait_in (b c t n : Int) : 0 ≤ waitP b c t n ∧ waitP b c t n ≤ 1048576 := by
  unfold waitP
  split
  · rename_i h
    have := right_is h
    have hd : ∀ k v, 0 ≤ v → 0 ≤ dbl c k v := by
      intro k
      induction k with
      | zero => intro v h; exact h
      | succ k ih =>
        intro v h
        unfold dbl
        split
        · exact ih _ (by omega)
        · exact h
    have := hd n.toNat b (by omega)
    omega
  · omega
/-- the sum of the first k waits -/
def totP (b c t : Int) : Nat → Int
  | 0 => 0
  | k + 1 => totP b c t k + waitP b c t k
theorem tot_in (b c t : Int) : ∀ k, 0 ≤ totP b c t k ∧ totP b c t k ≤ k * 1048576
  | 0 => by simp [totP]
  | k + 1 => by
    have h1 := tot_in b c t k
    have h2 := wait_in b c t k
    unfold totP
    omega
theorem tot_no {b c t : Int} (h : rightP b c t = false) : ∀ k, totP b c t k = 0
  | 0 => rfl
  | k + 1 => by
    unfold totP waitP
    rw [tot_no h k, h]
    rfl
def totalP (b c t : Int) : Int := if rightP b c t = true then totP b c t t.toNat else 0
set_option maxRecDepth 8000 in
theorem total_any (w : World) (b c t : Int) : Calls Tryz.prog 53 #[paV b c t] w fun e w' => e = .returned (.int .i64 (totalP b c t)) ∧ Below w.heap.size w w' := by
  obtain ⟨w0, hw0⟩ : ∃ w0, w.alloc (paC b c t) = w0 := ⟨_, rfl⟩
  have HB : Hid (Box w w0 w.heap.size b c t) := by rw [← hw0]; exact Box.mk' w b c t
  obtain ⟨A, hA⟩ : ∃ A, w.heap.size = A := ⟨_, rfl⟩
  rw [hA] at HB ⊢
  have c0 := HB.out.c0
  have c1 := HB.out.c1
  have c2 := HB.out.c2
  have HR := hid (right_any w0 b c t)
  unfold totalP
  cases hr : rightP b c t <;> rw [hr] at HR
  · go_enter Tryz.func53, Tryz.ntmps53
    go_wp2_with fail
    refine HR.out.mono ?_
    rintro _ w1 ⟨rfl, e1⟩
    have HE := hid (HB.out.on e1).be
    clear e1
    go_wp2
    go_ret
    exact ⟨rfl, HE.out⟩
  · have HI := hid (right_is hr)
    rw [if_pos rfl]
    clear hr
    go_enter Tryz.func53, Tryz.ntmps53
    go_wp2_with fail
    refine HR.out.mono ?_
    rintro _ w1 ⟨rfl, e1⟩
    have HB1 := hid (HB.out.on e1)
    clear c0 c1 c2 e1 HB hw0
    have c0 := HB1.out.c0
    have c1 := HB1.out.c1
    have c2 := HB1.out.c2
    go_wp2_with fail
    go_loopw [3, 10] (fun u3 u10 wr => ∃ (k : Nat), u10 = .int .i64 k ∧ u3 = .int .i64 (totP b c t k) ∧ (k : Int) ≤ t ∧ Box w wr A b c t) (fun _ u10 _ => (t - intOf u10).toNat)
    case atStart => exact ⟨0, rfl, rfl, by have := HI.out; omega, HB1.out⟩
    case round =>
      obtain ⟨k, rfl, rfl, hk, hb⟩ := hrel
      have HBK := hid hb
      clear hb HB1 c0 c1 c2
      have c0 := HBK.out.c0
      have c1 := HBK.out.c1
      have c2 := HBK.out.c2
      by_cases hlt : (k : Int) < t
      · have HW := hid (wait_any wr b c t k (by have := HI.out; omega))
        obtain ⟨v, hv⟩ : ∃ v, waitP b c t (k : Int) = v := ⟨_, rfl⟩
        obtain ⟨s, hs⟩ : ∃ s, totP b c t k = s := ⟨_, rfl⟩
        have HS : Hid (totP b c t (k + 1) = s + v) := by rw [← hs, ← hv]; exact rfl
        have w1' : wrap64 (s + v) = s + v := by
          have h1 := tot_in b c t k
          have h2 := wait_in b c t k
          rw [hs] at h1
          rw [hv] at h2
          have := HI.out
          unfold wrap64; omega
        have w2' : wrap64 ((k : Int) + 1) = (k : Int) + 1 := by have := HI.out; unfold wrap64; omega
        rw [hv] at HW
        rw [hs]
        have HK := hid (And.intro hk hlt)
        clear hv hs hk
        go_wp2_with fail
        refine HW.out.mono ?_
        rintro _ w2 ⟨rfl, e2⟩
        have HB2 := hid (HBK.out.on e2)
        clear e2 c0 c1 c2 HBK HW
        go_wp2
        go_roundw
        case rel => exact ⟨k + 1, by first | rfl | (rw [w2']; rfl), by rw [HS.out]; first | rfl | rw [w1'], by have := HK.out; omega, HB2.out⟩
        case measure => first | (rw [w2']; show (t - ((k : Int) + 1)).toNat < (t - (k : Int)).toNat; omega) | (show (t - ((k : Int) + 1)).toNat < (t - (k : Int)).toNat; omega)
      · have hkt : t.toNat = k := by omega
        have HBE := hid HBK.out.be
        clear HBK
        go_wp2
        go_ret
        exact ⟨rfl, HBE.out⟩
set_option maxRecDepth 8000 in
theorem dtotal_any (w : World) (b c t : Int) : Calls Tryz.prog 65 #[paV b c t] w fun e w' => e = .returned (.int .i64 (totalP b c t)) ∧ Below w.heap.size w w' := by
  obtain ⟨w0, hw0⟩ : ∃ w0, w.alloc (paC b c t) = w0 := ⟨_, rfl⟩
  have HB : Hid (Box w w0 w.heap.size b c t) := by rw [← hw0]; exact Box.mk' w b c t
  obtain ⟨A, hA⟩ : ∃ A, w.heap.size = A := ⟨_, rfl⟩
  rw [hA] at HB ⊢
  have c0 := HB.out.c0
  have c1 := HB.out.c1
  have c2 := HB.out.c2
  go_enter Tryz.func65, Tryz.ntmps65
  go_wp2_with fail
  go_loopw [3, 4] (fun u3 u4 wr => ∃ (k : Nat), u4 = .int .i64 k ∧ u3 = .int .i64 (totP b c t k) ∧ ((k : Int) ≤ t ∨ k = 0) ∧ k ≤ 32 ∧ Box w wr A b c t) (fun _ u4 _ => 32 - (intOf u4).toNat)
  case atStart => exact ⟨0, rfl, rfl, .inr rfl, by omega, HB.out⟩
  case round =>
    obtain ⟨k, rfl, rfl, hk, hk2, hb⟩ := hrel
    have HBK := hid hb
    clear hb HB c0 c1 c2
    have c0 := HBK.out.c0
    have c1 := HBK.out.c1
    have c2 := HBK.out.c2
    by_cases hlt : (k : Int) < t
    · by_cases hl2 : (k : Int) < 32
      · have HW := hid (dwait_any wr b c t k (by omega))
        obtain ⟨v, hv⟩ : ∃ v, waitP b c t (k : Int) = v := ⟨_, rfl⟩
        obtain ⟨s, hs⟩ : ∃ s, totP b c t k = s := ⟨_, rfl⟩
        have HS : Hid (totP b c t (k + 1) = s + v) := by rw [← hs, ← hv]; exact rfl
        have w1' : wrap64 (s + v) = s + v := by
          have h1 := tot_in b c t k
          have h2 := wait_in b c t k
          rw [hs] at h1
          rw [hv] at h2
          unfold wrap64; omega
        have w2' : wrap64 ((k : Int) + 1) = (k : Int) + 1 := by unfold wrap64; omega
        rw [hv] at HW
        rw [hs]
        have HK := hid (And.intro hlt hl2)
        clear hv hs hk hk2
        go_wp2_with fail
        refine HW.out.mono ?_
        rintro _ w2 ⟨rfl, e2⟩
        have HB2 := hid (HBK.out.on e2)
        clear e2 c0 c1 c2 HBK HW
        go_wp2
        go_roundw
        case rel => exact ⟨k + 1, by first | rfl | (rw [w2']; rfl), by rw [HS.out]; first | rfl | rw [w1'], .inl (by have := HK.out; omega), by have := HK.out; omega, HB2.out⟩
        case measure => first | (rw [w2']; show 32 - ((k : Int) + 1).toNat < 32 - (k : Int).toNat; omega) | (show 32 - ((k : Int) + 1).toNat < 32 - (k : Int).toNat; omega)
      · have HE : Hid (totP b c t k = totalP b c t) := by
          unfold totalP
          cases hr : rightP b c t
          · rw [tot_no hr]; exact rfl
          · rw [if_pos rfl, show t.toNat = k by have := right_is hr; omega]; exact rfl
        have HBE := hid HBK.out.be
        clear HBK
        go_wp2
        go_ret
        exact ⟨by rw [← HE.out]; rfl, HBE.out⟩
    · have HE : Hid (totP b c t k = totalP b c t) := by
        unfold totalP
        cases hr : rightP b c t
        · rw [tot_no hr]; exact rfl
        · rw [if_pos rfl, show t.toNat = k by have := right_is hr; omega]; exact rfl
      have HBE := hid HBK.out.be
      clear HBK
      go_wp2
      go_ret
      exact ⟨by rw [← HE.out]; rfl, HBE.out⟩
end Go.Proofs.YtfcbjcebkahehaaGreatDoor.Pc
