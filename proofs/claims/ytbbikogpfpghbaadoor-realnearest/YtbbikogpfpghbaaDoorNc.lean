/- What the statement on the nearest number asks, in Bools. -/
import Derived.Test.YtbbikogpfpghbaaDoorNb
import Derived.Test.YtbbikogpfpghbaaDoorNw
namespace Go.Proofs.YtbbikogpfpghbaaDoor
open Go.RowKit

/-- The rung of the nearest narrow number. -/
def ngr (r : Nat) : Nat := if r = 9218868437227405312 then 2139095040 else min (Fl.RG 23 925 (Fl.sizeOf Ieee.double r)) 2139095040

theorem ngr_le (r : Nat) : ngr r ≤ 2139095040 := by
  unfold ngr; split
  · omega
  · exact Nat.min_le_right _ _

theorem ngr_zero : ngr 0 = 0 := by
  unfold ngr
  rw [if_neg (by omega)]
  have : Fl.sizeOf Ieee.double 0 = 0 := by unfold Fl.sizeOf; rw [Fl.bi64, if_pos (by omega)]
  rw [this, Fl.RG_zero]; rfl

theorem ngr_mono (r r' : Nat) (h : r ≤ r') (h' : r' ≤ 9218868437227405312) : ngr r ≤ ngr r' := by
  by_cases h1 : r' = 9218868437227405312
  · have := ngr_le r
    have e : ngr r' = 2139095040 := by unfold ngr; rw [if_pos h1]
    omega
  · unfold ngr
    rw [if_neg h1, if_neg (by omega)]
    have hs : Fl.sizeOf Ieee.double r ≤ Fl.sizeOf Ieee.double r' := by
      rcases Nat.eq_or_lt_of_le h with e | e
      · rw [e]; exact Nat.le_refl _
      · exact Nat.le_of_lt (Fl.sizeOf_lt Ieee.double e)
    have := Fl.RG_mono 23 925 _ _ hs
    omega

theorem narF_ngr (s : Bool) (r : Nat) (hr : r ≤ 9218868437227405312) : narF (Ieee.double.word s r) = Ieee.single.word s (ngr r) := by
  by_cases h1 : r = 9218868437227405312
  · subst h1
    unfold narF ngr
    rw [(nan64_word s _ (by omega)).1, narrow_conv_inf s, if_pos rfl]; rfl
  · have hlt : r < 9218868437227405312 := by omega
    have e1 := near_rgN s r hlt
    rw [Fl.near_size, Fl.near32] at e1
    have e2 := Fl.word_inj _ _ _ _ e1
    rw [narF_word s r hlt, ← e2]
    unfold ngr
    rw [if_neg h1]

theorem svm (s t : Bool) (r r' : Nat) (hr : r ≤ 9218868437227405312) (hr' : r' ≤ 9218868437227405312) (h : Fl.sv s r ≤ Fl.sv t r') : Fl.sv s (ngr r) ≤ Fl.sv t (ngr r') := by
  have h1 : r ≤ r' → ngr r ≤ ngr r' := fun h => ngr_mono r r' h hr'
  have h2 : r' ≤ r → ngr r' ≤ ngr r := fun h => ngr_mono r' r h hr
  have z1 : r = 0 → ngr r = 0 := fun e => by rw [e]; exact ngr_zero
  have z2 : r' = 0 → ngr r' = 0 := fun e => by rw [e]; exact ngr_zero
  unfold Fl.sv at *
  cases s <;> cases t <;> simp only [Bool.false_eq_true, if_false, if_true] at * <;> omega

theorem le_bool (c : Ordering) : ((some c == some Ordering.lt) || (some c == some Ordering.eq)) = (c != .gt) := by cases c <;> rfl
theorem ge_bool (c : Ordering) : ((some c == some Ordering.gt) || (some c == some Ordering.eq)) = (c != .lt) := by cases c <;> rfl
theorem cmp_ngt (a b : Int) : (compare a b != .gt) = decide (a ≤ b) := by
  rcases Int.lt_trichotomy a b with h | h | h
  · rw [Int.compare_eq_lt.2 h, decide_eq_true (by omega)]; rfl
  · subst h; simp
  · rw [Int.compare_eq_gt.2 h, decide_eq_false (by omega)]; rfl
theorem cmp_nlt (a b : Int) : (compare a b != .lt) = decide (b ≤ a) := by
  rcases Int.lt_trichotomy a b with h | h | h
  · rw [Int.compare_eq_lt.2 h, decide_eq_false (by omega)]; rfl
  · subst h; simp
  · rw [Int.compare_eq_gt.2 h, decide_eq_true (by omega)]; rfl

theorem ord64 (s t : Bool) (a b : Nat) (ha : a ≤ 9218868437227405312) (hb : b ≤ 9218868437227405312) : FloatKind.f64.format.order (Ieee.double.word s a) (Ieee.double.word t b) = some (compare (Fl.sv s a) (Fl.sv t b)) :=
  Fl.ord_gen Ieee.double s t a b (by rw [Fl.inf64]; exact ha) (by rw [Fl.inf64]; exact hb) Fl.bi_le64 (by rw [Fl.inf64]; omega)
theorem ord32 (s t : Bool) (a b : Nat) (ha : a ≤ 2139095040) (hb : b ≤ 2139095040) : FloatKind.f32.format.order (Ieee.single.word s a) (Ieee.single.word t b) = some (compare (Fl.sv s a) (Fl.sv t b)) :=
  Fl.ord_gen Ieee.single s t a b (by rw [Fl.inf32]; exact ha) (by rw [Fl.inf32]; exact hb) Fl.bi_le32 (by rw [Fl.inf32]; omega)

theorem order_nan (x y : Nat) (hx : x < 18446744073709551616) (h : nan64 x = true) : FloatKind.f64.format.order x y = none := by
  obtain ⟨neg, fr, hd⟩ := read_nan64 x hx h
  show (Ieee.double.read x).order (Ieee.double.read y) = none
  rw [show Ieee.double.read x = .nan neg fr from hd]
  rfl
theorem order_nan' (x y : Nat) (hy : y < 18446744073709551616) (h : nan64 y = true) : FloatKind.f64.format.order x y = none := by
  obtain ⟨neg, fr, hd⟩ := read_nan64 y hy h
  show (Ieee.double.read x).order (Ieee.double.read y) = none
  rw [show Ieee.double.read y = .nan neg fr from hd]
  cases Ieee.double.read x <;> rfl

/-- It does not fall. -/
theorem mono_le (x y : Nat) (hx : x < 18446744073709551616) (hy : y < 18446744073709551616) :
    ((FloatKind.f64.format.order x y == some .lt || FloatKind.f64.format.order x y == some .eq) = true → (FloatKind.f32.format.order (narF x) (narF y) == some .lt || FloatKind.f32.format.order (narF x) (narF y) == some .eq) = true) ∧
    ((FloatKind.f64.format.order x y == some .gt || FloatKind.f64.format.order x y == some .eq) = true → (FloatKind.f32.format.order (narF x) (narF y) == some .gt || FloatKind.f32.format.order (narF x) (narF y) == some .eq) = true) := by
  cases hnx : nan64 x with
  | true => rw [order_nan x y hx hnx]; exact ⟨fun h => absurd h (by decide), fun h => absurd h (by decide)⟩
  | false =>
    cases hny : nan64 y with
    | true => rw [order_nan' x y hy hny]; exact ⟨fun h => absurd h (by decide), fun h => absurd h (by decide)⟩
    | false =>
      obtain ⟨s, r, hr, rfl, hn, _, _⟩ := splitW x hx
      obtain ⟨t, r', hr', rfl, hn', _, _⟩ := splitW y hy
      rw [hnx] at hn
      rw [hny] at hn'
      have hle : r ≤ 9218868437227405312 := by simpa using hn.symm
      have hle' : r' ≤ 9218868437227405312 := by simpa using hn'.symm
      rw [ord64 s t r r' hle hle', narF_ngr s r hle, narF_ngr t r' hle', ord32 s t _ _ (ngr_le r) (ngr_le r'), le_bool, le_bool, ge_bool, ge_bool, cmp_ngt, cmp_ngt, cmp_nlt, cmp_nlt]
      simp only [decide_eq_true_eq]
      exact ⟨svm s t r r' hle hle', svm t s r' r hle' hle⟩

/-- The widened narrow number, by its size. -/
theorem wid_size (s : Bool) (g : Nat) (h : g < 2139095040) : ∃ a, a < 9218868437227405312 ∧ wid (Ieee.single.word s g) = Ieee.double.word s a ∧ Fl.sizeOf Ieee.double a = Fl.sizeOf Ieee.single g * Fl.K925 := by
  have hp := place32 g h
  have hm : Fl.magOf Ieee.single g < 16777216 := Nat.lt_of_lt_of_eq (Fl.magOf_lt Ieee.single g) (by decide)
  obtain ⟨a, ha, hs⟩ := Fl.rung_of_size (Fl.magOf Ieee.single g) ((Fl.placeOf Ieee.single g + 149).toNat + 925) (by omega) (by omega)
  have hsz : Fl.sizeOf Ieee.double a = Fl.sizeOf Ieee.single g * Fl.K925 := by
    have e : (Fl.placeOf Ieee.single g - -149).toNat = (Fl.placeOf Ieee.single g + 149).toNat := by omega
    rw [hs, Fl.K_pow, Fl.sizeOf_parts, Fl.lp32, Nat.mul_assoc, e]
  refine ⟨a, ha, ?_, hsz⟩
  rw [wid_word s g h]
  by_cases h0 : Fl.magOf Ieee.single g = 0
  · rw [h0, Fl.nearest_zero]
    rw [h0, Nat.zero_mul] at hs
    have : a = 0 := by
      rcases Nat.eq_zero_or_pos a with e | e
      · exact e
      · have := Fl.sizeOf_lt Ieee.double e; omega
    rw [this]
  · have e1 := Fl.nearest_shift Ieee.double s (Fl.magOf Ieee.single g) ((Fl.placeOf Ieee.single g + 149).toNat + 925) (-1074) h0
    have e2 : (-1074 : Int) + (((Fl.placeOf Ieee.single g + 149).toNat + 925 : Nat) : Int) = Fl.placeOf Ieee.single g := by omega
    rw [e2] at e1
    rw [← e1, Fl.near64, ← hs, Fl.RG_size a ha, Nat.min_eq_left (by omega)]

theorem natAbs_dist (s : Bool) (a b : Nat) : (Fl.sv s a - Fl.sv s b).natAbs = Fl.dist a b := by
  unfold Fl.sv Fl.dist
  cases s <;> simp only [Bool.false_eq_true, if_false, if_true] <;> omega

/-- A difference, without its sign. -/
theorem abs_word (neg : Bool) (R : Nat) (hR : R ≤ 9218868437227405312) : ∃ (b : Bool) (n1 : Bool), (FloatKind.f64.format.order (Ieee.double.word neg R) 0 == some .lt) = b ∧ (if b then Op.negFloat .f64 (Ieee.double.word neg R) else Ieee.double.word neg R) = Ieee.double.word n1 R ∧ Fl.sv n1 R = (R : Int) := by
  have ho := ord64 neg false R 0 hR (by omega)
  have hz : Ieee.double.word false 0 = 0 := rfl
  rw [hz] at ho
  cases neg
  · refine ⟨false, false, ?_, rfl, rfl⟩
    rw [ho]
    have : ¬ (R : Int) < 0 := by omega
    show (some (compare (R : Int) 0) == some Ordering.lt) = false
    rcases Nat.eq_zero_or_pos R with e | e
    · subst e; rfl
    · rw [Int.compare_eq_gt.2 (by omega)]; rfl
  · rcases Nat.eq_zero_or_pos R with e | e
    · subst e
      exact ⟨false, true, by rw [ho]; rfl, rfl, rfl⟩
    · refine ⟨true, false, ?_, ?_, rfl⟩
      · rw [ho]
        show (some (compare (-(R : Int)) 0) == some Ordering.lt) = true
        rw [Int.compare_eq_lt.2 (by omega)]; rfl
      · rw [if_pos rfl, neg_true R (by omega)]; rfl

theorem cmp_words (n1 n2 : Bool) (R1 R2 : Nat) (h1 : R1 ≤ 9218868437227405312) (h2 : R2 ≤ 9218868437227405312) (e1 : Fl.sv n1 R1 = (R1 : Int)) (e2 : Fl.sv n2 R2 = (R2 : Int)) :
    (FloatKind.f64.format.order (Ieee.double.word n2 R2) (Ieee.double.word n1 R1) == some .lt) = decide (R2 < R1) ∧ (FloatKind.f64.format.order (Ieee.double.word n2 R2) (Ieee.double.word n1 R1) == some .eq) = decide (R2 = R1) := by
  rw [ord64 n2 n1 R2 R1 h2 h1, e1, e2, Fl.compare_cast]
  rcases Nat.lt_trichotomy R2 R1 with h | h | h
  · rw [Nat.compare_eq_lt.2 h, decide_eq_true h, decide_eq_false (by omega)]; exact ⟨rfl, rfl⟩
  · subst h; simp
  · rw [Nat.compare_eq_gt.2 h, decide_eq_false (by omega), decide_eq_false (by omega)]; exact ⟨rfl, rfl⟩

theorem fb_sub (x y : Nat) : floatBits .sub .f64 x y = Ieee.double.sub x y := rfl

theorem sub_to_inf (s : Bool) (r : Nat) (hr : r < 9218868437227405312) : Ieee.double.sub (Ieee.double.word s r) (Ieee.double.word s 9218868437227405312) = some (Ieee.double.word (!s) 9218868437227405312) := by
  have h1 := Fl.read_number Ieee.double s r (by rw [Fl.inf64]; exact hr)
  have h2 := Fl.read_inf Ieee.double s Fl.bi_le64
  rw [Fl.inf64] at h2
  unfold Ieee.Format.sub
  rw [h1, h2]
  generalize Fl.magOf Ieee.double r = m
  generalize Fl.placeOf Ieee.double r = q
  simp only [Ieee.Datum.opposite, Ieee.Datum.sum, Option.map_some, Ieee.Format.write]
  rw [Fl.inf64]

/-- A finite number less a narrow one: the distance, rounded. -/
theorem sub_dist (s : Bool) (r g : Nat) (hr : r < 9218868437227405312) (hg : g < 2139095040) : ∃ n, Ieee.double.sub (Ieee.double.word s r) (wid (Ieee.single.word s g)) = some (Ieee.double.word n (min (Fl.RG 52 0 (Fl.dist (Fl.sizeOf Ieee.double r) (Fl.sizeOf Ieee.single g * Fl.K925))) 9218868437227405312)) := by
  obtain ⟨a, ha, hwa, hsa⟩ := wid_size s g hg
  obtain ⟨n, hsub, _⟩ := Fl.sub_fin s s r a hr ha
  rw [natAbs_dist, hsa, ← hwa] at hsub
  exact ⟨n, hsub⟩

theorem min_lt_of (a b c : Nat) (h : a ≤ b) : min a c ≤ min b c := by omega
theorem min_lt_of' (a b c : Nat) (h : a < b) (h2 : a < c) : min a c < min b c := by omega
theorem min_lt_c (a c : Nat) (h : a < c) : min a c < c := by omega

/-- The neighbour's distance. -/
theorem nb_core (s : Bool) (r g g' : Nat) (hr : r < 9218868437227405312) (hg : g = ngr r) (hgi : g < 2139095040) (hg' : g' = g + 1 ∨ g' + 1 = g) :
    ∃ (np nq : Bool) (R1 R2 : Nat), Ieee.double.sub (Ieee.double.word s r) (wid (Ieee.single.word s g)) = some (Ieee.double.word np R1) ∧ Ieee.double.sub (Ieee.double.word s r) (wid (Ieee.single.word s g')) = some (Ieee.double.word nq R2) ∧ R1 ≤ 9218868437227405312 ∧ R2 ≤ 9218868437227405312 ∧ R1 ≤ R2 ∧ (g % 2 = 1 → R1 < R2) := by
  obtain ⟨np, hp⟩ := sub_dist s r g hr hgi
  by_cases hr0 : r = 0
  · have hz : g = 0 := by rw [hg, hr0]; exact ngr_zero
    have h0 : Fl.sizeOf Ieee.double 0 = 0 := by unfold Fl.sizeOf; rw [Fl.bi64, if_pos (by omega)]
    have h1 : Fl.sizeOf Ieee.single 0 = 0 := by unfold Fl.sizeOf; rw [Fl.bi32, if_pos (by omega)]
    have hd : Fl.RG 52 0 (Fl.dist (Fl.sizeOf Ieee.double r) (Fl.sizeOf Ieee.single g * Fl.K925)) = 0 := by
      rw [hz, hr0, h0, h1, Nat.zero_mul]
      exact Fl.RG_zero 52 0
    rw [hd, Nat.zero_min] at hp
    obtain ⟨nq, hq⟩ := sub_dist s r g' hr (by omega)
    exact ⟨np, nq, 0, _, hp, hq, Nat.zero_le _, Nat.min_le_right _ _, Nat.zero_le _, fun ho => absurd ho (by omega)⟩
  · have hgr : g = Fl.RG 23 925 (Fl.sizeOf Ieee.double r) := by
      unfold ngr at hg
      rw [if_neg (by omega)] at hg
      generalize Fl.RG 23 925 (Fl.sizeOf Ieee.double r) = y at *
      omega
    obtain ⟨n1, n2, n3⟩ := Fl.nb_rungs r g g' hr0 hr hgr hgi hg'
    by_cases hi : g' = 2139095040
    · have hq := sub_to_inf s r hr
      rw [← wid_inf, ← hi] at hq
      exact ⟨np, !s, _, 9218868437227405312, hp, hq, Nat.min_le_right _ _, Nat.le_refl _, Nat.min_le_right _ _, fun ho => min_lt_c _ _ (n3 ho)⟩
    · obtain ⟨nq, hq⟩ := sub_dist s r g' hr (by omega)
      exact ⟨np, nq, _, _, hp, hq, Nat.min_le_right _ _, Nat.min_le_right _ _, min_lt_of _ _ _ n1, fun ho => min_lt_of' _ _ _ (n2 ho) (n3 ho)⟩

/-- What is asked at a neighbour. -/
theorem nb_fact (s : Bool) (r g g' : Nat) (hr : r < 9218868437227405312) (hg : g = ngr r) (hgi : g < 2139095040) (hg' : g' = g + 1 ∨ g' + 1 = g) :
    ∃ (pw qw : Nat) (bp bq : Bool) (pa qa : Nat) (be : Bool), floatBits .sub .f64 (Ieee.double.word s r) (wid (Ieee.single.word s g)) = some pw ∧ floatBits .sub .f64 (Ieee.double.word s r) (wid (Ieee.single.word s g')) = some qw ∧
      (FloatKind.f64.format.order pw 0 == some .lt) = bp ∧ (FloatKind.f64.format.order qw 0 == some .lt) = bq ∧ (if bp then Op.negFloat .f64 pw else pw) = pa ∧ (if bq then Op.negFloat .f64 qw else qw) = qa ∧
      (FloatKind.f64.format.order qa pa == some .lt) = false ∧ (FloatKind.f64.format.order qa pa == some .eq) = be ∧ (be = true → g % 2 = 0) := by
  obtain ⟨np, nq, R1, R2, hsub, hq1, hRp, hq2, hq3, hq4⟩ := nb_core s r g g' hr hg hgi hg'
  obtain ⟨bp, n1, hp1, hp2, hp3⟩ := abs_word np R1 hRp
  obtain ⟨bq, n2, hq5, hq6, hq7⟩ := abs_word nq R2 hq2
  obtain ⟨c1, c2⟩ := cmp_words n1 n2 R1 R2 hRp hq2 hp3 hq7
  rw [← fb_sub] at hsub hq1
  refine ⟨_, _, bp, bq, _, _, _, hsub, hq1, hp1, hq5, hp2, hq6, ?_, c2, ?_⟩
  · rw [c1]; exact decide_eq_false (by omega)
  · intro hh
    have := of_decide_eq_true hh
    rcases Nat.mod_two_eq_zero_or_one g with h | h
    · exact h
    · have := hq4 h; omega

end Go.Proofs.YtbbikogpfpghbaaDoor
