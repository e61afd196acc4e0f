/- PaceBounds: its walk. -/
import Derived.Test.YtpimdiliibokbaaBoWg
import Derived.Deep.CutBlock
import Derived.Deep.CutRange
namespace Go.Proofs.Ytpimdiliibokbaa
open Go.RowKit Ieee
theorem Fl.cdiv_up (n D : Nat) (hD : 0 < D) : n ≤ Fl.cdiv n D * D := by
  unfold Fl.cdiv
  have h1 := Nat.div_add_mod n D
  have h2 := Nat.mod_lt n hD
  rw [Nat.add_mul, Nat.mul_comm (n / D) D]
  by_cases hm : n % D = 0
  · rw [if_pos hm]; omega
  · rw [if_neg hm]; omega
theorem gt32 {r r' : Nat} (h : r ≤ 2139095040) (h' : r' ≤ 2139095040) : (FloatKind.f32.format.order r r' == some .gt) = decide (r' < r) := by
  rw [ord32 r r' h h']
  rcases Nat.lt_trichotomy r r' with q | q | q
  · rw [Nat.compare_eq_lt.2 q]; simp; omega
  · rw [Nat.compare_eq_eq.2 q]; simp [q]
  · rw [Nat.compare_eq_gt.2 q]; simp [q]
/-- the guess is from the mean on -/
theorem guess_ge {a b : Nat} (ha : a ≤ 1233125376) (hb : b ≤ 1233125376) : ∃ G : Nat, gsP a b = (G : Int) ∧ G ≤ 1048576 ∧ a ≤ Fl.fI G := by
  obtain ⟨r1, r2, r3, r4, r5, r6⟩ := Fl.reach_is ha hb
  refine ⟨min (Fl.ups (Fl.reach a b)) 1048576, by unfold gsP; omega, by omega, ?_⟩
  by_cases h : Fl.ups (Fl.reach a b) ≤ 1048576
  · rw [Nat.min_eq_left h]
    have hs := Fl.fI_size (Fl.ups (Fl.reach a b)) (by omega)
    have hu := Fl.cdiv_up (Fl.sizeOf single (Fl.reach a b)) (2 ^ 149) Fl.pow149
    have h3 := Fl.size_le r3
    refine Fl.size_le' ?_
    rw [hs]
    exact Nat.le_trans h3 hu
  · rw [Nat.min_eq_right (by omega), Fl.fI20]; exact ha
theorem between {mn mx x S Q : Nat} (h1 : mn ≤ x) (h2 : x ≤ mx) (s1 : mn * Q ≤ S) (s2 : S ≤ mx * Q) : (x * Q - S) + (S - x * Q) ≤ (mx - mn) * Q := by
  have e1 : mn * Q ≤ x * Q := Nat.mul_le_mul_right _ h1
  have e2 : x * Q ≤ mx * Q := Nat.mul_le_mul_right _ h2
  rw [Nat.sub_mul]
  omega
structure BI (a b L M F y : Nat) : Prop where
  lm : L ≤ M
  mt : M ≤ 1048576
  ft : F ≤ 1048576
  lo : Fl.fI L ≤ a
  hi : a ≤ Fl.fI M
  hy : single.div (Fl.fI F) 1073741824 = some y
  yt : y ≤ 1233125376
  sp : b ≤ max y (Fl.fI (M - L))
section
variable {a b L M F y : Nat}
theorem BI.at (h : BI a b L M F y) : a ≤ 1233125376 := Nat.le_trans h.hi (fI_top h.mt)
theorem BI.bt (h : BI a b L M F y) : b ≤ 1233125376 := by
  have h1 := h.sp
  have h2 := h.yt
  have h3 := fI_top (n := M - L) (by have := h.mt; omega)
  omega
/-- the first -/
theorem bi_first (n : Int) : ∃ y, single.div (Fl.fI (clamp n)) 1073741824 = some y ∧ BI (Fl.fI (clamp n)) y (clamp n) (clamp n) (clamp n) y := by
  have hx := fI_top (clamp_le n)
  obtain ⟨y, hy, hyx⟩ := Fl.half_fin _ hx
  exact ⟨y, hy, Nat.le_refl _, clamp_le n, clamp_le n, Nat.le_refl _, Nat.le_refl _, hy, by omega, by omega⟩
/-- each that follows -/
theorem bi_next (h : BI a b L M F y) (n : Int) : ∃ a' b', (∀ w A, Mt w 46 A true a b → Calls Try.prog 19 #[ptr A, .int .i64 n] w fun e w' => e = .returned (.tuple #[]) ∧ Mt w' 46 A true a' b' ∧ Own A w w') ∧ BI a' b' (min L (clamp n)) (max M (clamp n)) F y := by
  obtain ⟨x, hx⟩ : ∃ x, clamp n = x := ⟨_, rfl⟩
  have hxt : x ≤ 1048576 := by rw [← hx]; exact clamp_le n
  have hm := h.mt
  have hlm := h.lm
  have k1 : min L x ≤ max M x := by omega
  have k2 : max M x ≤ 1048576 := by omega
  have l1 : Fl.fI (min L x) ≤ a := Nat.le_trans (Fl.fI_mono (by omega)) h.lo
  have l2 : a ≤ Fl.fI (max M x) := Nat.le_trans h.hi (Fl.fI_mono (by omega))
  have l3 : Fl.fI (min L x) ≤ Fl.fI x := Fl.fI_mono (by omega)
  have l4 : Fl.fI x ≤ Fl.fI (max M x) := Fl.fI_mono (by omega)
  have l5 := Fl.fI_lt (max M x) (by omega)
  obtain ⟨neg, r, p, a', g1⟩ := Fl.goes 3 1090519040 (by omega) Fl.eight32 a (Fl.fI x) _ _ l1 l2 l3 l4 l5 (Fl.top_200 (fI_top (by omega)))
  have hr : r ≤ Fl.fI (max M x - min L x) := by
    rw [g1.is_]
    refine Fl.RG_le ?_ (Fl.fI_lt _ (by omega))
    have s1 := Fl.size_le l1
    have s2 := Fl.size_le l2
    have zx := Fl.fI_size x (by omega)
    have zl := Fl.fI_size (min L x) (by omega)
    have zm := Fl.fI_size (max M x) (by omega)
    have zd := Fl.fI_size (max M x - min L x) (by omega)
    rw [zl] at s1
    rw [zm] at s2
    rw [zx, zd, Nat.pow_zero, Nat.mul_one]
    exact between (by omega) (by omega) s1 s2
  have hw : b ≤ max y (Fl.fI (max M x - min L x)) := by
    have h1 := h.sp
    have h2 : Fl.fI (M - L) ≤ Fl.fI (max M x - min L x) := Fl.fI_mono (by omega)
    omega
  have hwt : max y (Fl.fI (max M x - min L x)) ≤ 1233125376 := by
    have h1 := h.yt
    have h2 := fI_top (n := max M x - min L x) (by omega)
    omega
  obtain ⟨neg2, r2, p2, b', g2⟩ := Fl.goes 2 1082130432 (by omega) Fl.fourth32 b r 0 (max y (Fl.fI (max M x - min L x))) (Nat.zero_le _) hw (Nat.zero_le _) (by omega) (by omega) (Fl.top_200 hwt)
  refine ⟨a', b', fun w A m => hear_next m n (by rw [hx]; exact g1) g2, ?_⟩
  exact ⟨by rw [hx]; exact k1, by rw [hx]; exact k2, h.ft, by rw [hx]; exact g1.lo, by rw [hx]; exact g1.hi, h.hy, h.yt, by rw [hx]; exact g2.hi⟩
end
end Go.Proofs.Ytpimdiliibokbaa
