/- The client's meter: what it hears. The document's meter: what it hears. -/
import Derived.Test.YtfcbjcebkahehaaGreatDoorZbg
import Derived.Test.YtfcbjcebkahehaaGreatDoorZbq
namespace Go.Proofs.YtfcbjcebkahehaaGreatDoor.Cl
open Go.RowKit Ieee
theorem unary_negf (k : FloatKind) (b : Nat) : Op.unary .neg (.float k b) = pure (.float k (Op.negFloat k b)) := rfl
theorem run_store_float {P : Program} {w : World} {a : Addr} {m : Mode} (k : FloatKind) (b : Nat) : (store a (.float k b) m).run P w = stored P w a (.float k b) m := run_store P w a _ m rfl
attribute [local go_sem] unary_negf run_store_float
theorem ari (op : BinOp) (t : TypeId) (k : FloatKind) (x y r : Nat) (h : floatBits op k x y = some r) : ∀ w, (binOp op t (.float k x) (.float k y)).run Tryz.prog w = .ok (.float k r) w :=
  fun w => run_float_arith w op t k x y r h
theorem fsub {x y r : Nat} (h : single.sub x y = some r) : ∀ w, (binOp .sub 118 (.float .f32 x) (.float .f32 y)).run Tryz.prog w = .ok (.float .f32 r) w := ari .sub 118 .f32 x y r h
theorem fadd {x y r : Nat} (h : single.add x y = some r) : ∀ w, (binOp .add 118 (.float .f32 x) (.float .f32 y)).run Tryz.prog w = .ok (.float .f32 r) w := ari .add 118 .f32 x y r h
theorem fmul {x y r : Nat} (h : single.mul x y = some r) : ∀ w, (binOp .mul 118 (.float .f32 x) (.float .f32 y)).run Tryz.prog w = .ok (.float .f32 r) w := ari .mul 118 .f32 x y r h
theorem fdiv {x y r : Nat} (h : single.div x y = some r) : ∀ w, (binOp .quo 118 (.float .f32 x) (.float .f32 y)).run Tryz.prog w = .ok (.float .f32 r) w := ari .quo 118 .f32 x y r h
theorem neg_true (r : Nat) (h : r < 2139095040) : Op.negFloat .f32 (single.word true r) = r := by
  show (2 ^ 31 + r) ^^^ 2 ^ 31 = r
  exact Fl.xor_top' 31 r (by omega)
theorem nearer_any (w : World) {f e c p a' : Nat} (h1 : single.div e c = some p) (h2 : single.add f p = some a') : Calls Tryz.prog 132 #[.float .f32 f, .float .f32 e, .float .f32 c] w fun r w' => r = .returned (.float .f32 a') ∧ w' = w := by
  have q1 := fdiv h1
  have q2 := fadd h2
  go_enter Tryz.func132, Tryz.ntmps132
  go_wp2
  go_ret
  exact ⟨rfl, rfl⟩
theorem size_any (w : World) (neg : Bool) (r : Nat) (hr : r < 2139095040) (hp : neg = true → 0 < r) : Calls Tryz.prog 133 #[.float .f32 (single.word neg r)] w fun e w' => e = .returned (.float .f32 r) ∧ w' = w := by
  cases neg
  · have ho : (FloatKind.f32.format.order r 0 == some .lt) = false := by
      show (single.order r 0 == some .lt) = false
      rw [Fl.ordPos single r 0 (by rw [Fl.inf32]; omega) (by rw [Fl.inf32]; omega) Fl.bi_le32]
      rcases Nat.eq_zero_or_pos r with h | h
      · rw [h]; rfl
      · rw [Nat.compare_eq_gt.2 h]; rfl
    rw [Fl.word_false]
    go_enter Tryz.func133, Tryz.ntmps133
    go_wp2
    go_ret
    exact ⟨rfl, rfl⟩
  · have ho : (FloatKind.f32.format.order (single.word true r) 0 == some .lt) = true := by
      show (single.order (single.word true r) 0 == some .lt) = true
      rw [Fl.ordNeg single r (by rw [Fl.inf32]; omega) (hp rfl) Fl.bi_le32]; rfl
    have hn := neg_true r hr
    generalize single.word true r = x at *
    go_enter Tryz.func133, Tryz.ntmps133
    go_wp2
    go_ret
    exact ⟨rfl, rfl⟩
/-- a meter in memory: t is its type -/
structure Mt (w : World) (t A : Nat) (h : Bool) (a b : Nat) : Prop where
  at_ : w.heap[A]? = some (.cells #[.bool h, .float .f32 a, .float .f32 b] t)
section
variable {w w' : World} {t A : Nat} {h : Bool} {a b : Nat}
theorem Mt.lt (m : Mt w t A h a b) : A < w.heap.size := (Array.getElem?_eq_some_iff.1 m.at_).1
theorem Mt.c0 (m : Mt w t A h a b) : w.cell? ⟨A, 0, none⟩ = some (.bool h) := by unfold World.cell?; rw [m.at_]; rfl
theorem Mt.c1 (m : Mt w t A h a b) : w.cell? ⟨A, 1, none⟩ = some (.float .f32 a) := by unfold World.cell?; rw [m.at_]; rfl
theorem Mt.c2 (m : Mt w t A h a b) : w.cell? ⟨A, 2, none⟩ = some (.float .f32 b) := by unfold World.cell?; rw [m.at_]; rfl
theorem Mt.f (m : Mt w t A h a b) (n : Nat) : w.frozen? ⟨A, n, none⟩ = false := by unfold World.frozen?; rw [m.at_]; rfl
theorem Mt.s0 (m : Mt w t A h a b) (v : Bool) : Mt (w.setCell ⟨A, 0, none⟩ (.bool v)) t A v a b := ⟨by unfold World.setCell; simp [Array.getElem?_modify, m.at_]⟩
theorem Mt.s1 (m : Mt w t A h a b) (v : Nat) : Mt (w.setCell ⟨A, 1, none⟩ (.float .f32 v)) t A h v b := ⟨by unfold World.setCell; simp [Array.getElem?_modify, m.at_]⟩
theorem Mt.s2 (m : Mt w t A h a b) (v : Nat) : Mt (w.setCell ⟨A, 2, none⟩ (.float .f32 v)) t A h a v := ⟨by unfold World.setCell; simp [Array.getElem?_modify, m.at_]⟩
end
/-- what is heard, kept within -/
def clamp (n : Int) : Nat := (min (max n 0) 1048576).toNat
theorem clamp_le (n : Int) : clamp n ≤ 1048576 := by unfold clamp; omega
/-- what has changed: a meter's own block -/
structure Own (A : Nat) (w w' : World) : Prop where
  os : w'.os = w.os
  tape : w'.tape = w.tape
  output : w'.output = w.output
  size : w.heap.size ≤ w'.heap.size
  kept : ∀ b, b < w.heap.size → b ≠ A → w'.heap[b]? = w.heap[b]?
theorem Own.refl (A : Nat) (w : World) : Own A w w := ⟨rfl, rfl, rfl, Nat.le_refl _, fun _ _ _ => rfl⟩
theorem Own.set {A : Nat} {w w' : World} (o : Own A w w') (n : Nat) (v : Value) : Own A w (w'.setCell ⟨A, n, none⟩ v) :=
  ⟨o.os, o.tape, o.output, by simpa [World.setCell] using o.size, fun b hb hne => (Below.heap_setCell _ _ _ _ hne).trans (o.kept b hb hne)⟩
/-- the first that is heard -/
theorem hear_first {w : World} {A : Nat} {a b : Nat} (m : Mt w 136 A false a b) (n : Int) {y : Nat} (hy : single.div (Fl.fI (clamp n)) 1073741824 = some y) :
    Calls Tryz.prog 86 #[ptr A, .int .i64 n] w fun e w' => e = .returned (.tuple #[]) ∧ Mt w' 136 A true (Fl.fI (clamp n)) y ∧ Own A w w' := by
  have c0 := m.c0
  have c1 := m.c1
  have c2 := m.c2
  have hx := Fl.ofI (clamp n) (by have := clamp_le n; omega)
  obtain ⟨M, hM⟩ : ∃ M : Int, max n 0 = M := ⟨_, rfl⟩
  obtain ⟨X, hX⟩ : ∃ X : Int, min M 1048576 = X := ⟨_, rfl⟩
  have hcl : ((clamp n : Nat) : Int) = X := by unfold clamp; omega
  rw [hcl] at hx
  generalize Fl.fI (clamp n) = fx at *
  have q := fdiv hy
  obtain ⟨w1, hw1⟩ : ∃ w1, w.setCell ⟨A, 0, none⟩ (.bool true) = w1 := ⟨_, rfl⟩
  obtain ⟨w2, hw2⟩ : ∃ w2, w1.setCell ⟨A, 1, none⟩ (.float .f32 fx) = w2 := ⟨_, rfl⟩
  obtain ⟨w3, hw3⟩ : ∃ w3, w2.setCell ⟨A, 2, none⟩ (.float .f32 y) = w3 := ⟨_, rfl⟩
  have m1 := m.s0 true
  rw [hw1] at m1
  have m2 := m1.s1 fx
  rw [hw2] at m2
  have m3 := m2.s2 y
  rw [hw3] at m3
  have HE : Hid (Mt w3 136 A true fx y ∧ Own A w w3) := ⟨m3, by rw [← hw3, ← hw2, ← hw1]; exact (((Own.refl A w).set 0 _).set 1 _).set 2 _⟩
  have f0 := m.f
  have f1 := m1.f
  have f2 := m2.f
  have d1 := m1.c1
  have d2 := m2.c2
  clear hcl m m1 m2 m3
  go_enter Tryz.func86, Tryz.ntmps86
  go_wp2
  ((try simp only [Exit.inBlock, Exit.then]); refine bodyPost_ret (results_none rfl _ _ _) rfl ?_)
  exact ⟨rfl, HE.out⟩
set_option maxHeartbeats 4000000 in
theorem hear_next {w : World} {A : Nat} {a b : Nat} (m : Mt w 136 A true a b) (n : Int) {lo hi lo' hi' : Nat} {neg neg2 : Bool} {r p a' r2 p2 b' : Nat} (h1 : Fl.Went (Fl.fI (clamp n)) a 1090519040 lo hi neg r p a') (h2 : Fl.Went r b 1082130432 lo' hi' neg2 r2 p2 b') :
    Calls Tryz.prog 86 #[ptr A, .int .i64 n] w fun e w' => e = .returned (.tuple #[]) ∧ Mt w' 136 A true a' b' ∧ Own A w w' := by
  have c0 := m.c0
  have c1 := m.c1
  have c2 := m.c2
  have hx := Fl.ofI (clamp n) (by have := clamp_le n; omega)
  obtain ⟨M, hM⟩ : ∃ M : Int, max n 0 = M := ⟨_, rfl⟩
  obtain ⟨X, hX⟩ : ∃ X : Int, min M 1048576 = X := ⟨_, rfl⟩
  have hcl : ((clamp n : Nat) : Int) = X := by unfold clamp; omega
  rw [hcl] at hx
  generalize Fl.fI (clamp n) = fx at *
  have q1 := fsub h1.sub
  have q2 := fsub h2.sub
  have HSZ := hid (fun w => size_any w neg r h1.fin h1.pos)
  have HN1 := hid (fun w => nearer_any w h1.div h1.add)
  have HN2 := hid (fun w => nearer_any w h2.div h2.add)
  generalize single.word neg r = ew at *
  generalize single.word neg2 r2 = ew2 at *
  obtain ⟨w1, hw1⟩ : ∃ w1, w.setCell ⟨A, 1, none⟩ (.float .f32 a') = w1 := ⟨_, rfl⟩
  have m1 := m.s1 a'
  rw [hw1] at m1
  have f0 := m.f
  have HM1 := hid m1
  have HO1 : Hid (Own A w w1) := by rw [← hw1]; exact (Own.refl A w).set 1 _
  have HE : Hid (Mt ((w1.setCell ⟨A, 2, none⟩ (.float .f32 b')).drew) 136 A true a' b' ∧ Own A w ((w1.setCell ⟨A, 2, none⟩ (.float .f32 b')).drew)) := by
    have m2 := HM1.out.s2 b'
    have o2 := HO1.out.set 2 (.float .f32 b')
    exact ⟨⟨m2.at_⟩, ⟨o2.os, o2.tape, o2.output, o2.size, o2.kept⟩⟩
  clear hcl m m1 h1 h2
  go_enter Tryz.func86, Tryz.ntmps86
  go_wp2_with fail
  refine (HN1.out _).mono ?_
  rintro _ w' ⟨rfl, hw'⟩
  subst hw'
  have d0 := HM1.out.c0
  have d1 := HM1.out.c1
  have d2 := HM1.out.c2
  have f1 := HM1.out.f
  clear HN1 HM1 HO1
  go_wp2_with fail
  go_region_with (first
    | (go_at_call 133
       refine (HSZ.out _).mono ?_
       rintro _ w5 ⟨rfl, hw5⟩
       subst hw5)
    | (go_at_call 132
       refine (HN2.out _).mono ?_
       rintro _ w5 ⟨rfl, hw5⟩
       subst hw5))
  all_goals (
    go_end0
    exact ⟨rfl, HE.out⟩)
theorem fI_top {n : Nat} (h : n ≤ 1048576) : Fl.fI n ≤ 1233125376 := by
  have := Fl.fI_mono h
  rwa [Fl.fI20] at this
theorem diff_top {x a hi : Nat} (hx : x ≤ hi) (ha : a ≤ hi) (hh : hi < 2139095040) : Fl.RG 23 0 ((Fl.sizeOf single x - Fl.sizeOf single a) + (Fl.sizeOf single a - Fl.sizeOf single x)) ≤ hi := by
  have h1 := Fl.size_le hx
  have h2 := Fl.size_le ha
  exact Fl.RG_le (by rw [Nat.pow_zero, Nat.mul_one]; omega) hh
/-- one step -/
theorem hear_one {h : Bool} {a b : Nat} (ok : MOk h a b) (n : Int) : ∃ a' b', (∀ w A, Mt w 136 A h a b → Calls Tryz.prog 86 #[ptr A, .int .i64 n] w fun e w' => e = .returned (.tuple #[]) ∧ Mt w' 136 A true a' b' ∧ Own A w w') ∧ MOk true a' b' := by
  have hx := fI_top (clamp_le n)
  cases h
  · obtain ⟨y, hy, hyx⟩ := Fl.half_fin _ hx
    exact ⟨_, y, fun w A m => hear_first m n hy, hx, by omega, fun h => by cases h⟩
  · obtain ⟨neg, r, p, a', g1⟩ := Fl.goes 3 1090519040 (by omega) Fl.eight32 a (Fl.fI (clamp n)) 0 1233125376 (Nat.zero_le _) ok.ma (Nat.zero_le _) hx (by omega) (Fl.top_200 (Nat.le_refl _))
    have hr : r ≤ 1233125376 := by rw [g1.is_]; exact diff_top hx ok.ma (by omega)
    obtain ⟨neg2, r2, p2, b', g2⟩ := Fl.goes 2 1082130432 (by omega) Fl.fourth32 b r 0 1233125376 (Nat.zero_le _) ok.mb (Nat.zero_le _) hr (by omega) (Fl.top_200 (Nat.le_refl _))
    exact ⟨a', b', fun w A m => hear_next m n g1 g2, g1.hi, g2.hi, fun h => by cases h⟩
end Go.Proofs.YtfcbjcebkahehaaGreatDoor.Cl
namespace Go.Proofs.YtfcbjcebkahehaaGreatDoor.Cl
open Go.RowKit Ieee
attribute [local go_sem] unary_negf run_store_float
/-- the first that is heard -/
theorem dhear_first {w : World} {A : Nat} {a b : Nat} (m : Mt w 120 A false a b) (n : Int) {y : Nat} (hy : single.div (Fl.fI (clamp n)) 1073741824 = some y) :
    Calls Tryz.prog 109 #[ptr A, .int .i64 n] w fun e w' => e = .returned (.tuple #[]) ∧ Mt w' 120 A true (Fl.fI (clamp n)) y ∧ Own A w w' := by
  have c0 := m.c0
  have c1 := m.c1
  have c2 := m.c2
  have hx := Fl.ofI (clamp n) (by have := clamp_le n; omega)
  obtain ⟨M, hM⟩ : ∃ M : Int, max n 0 = M := ⟨_, rfl⟩
  obtain ⟨X, hX⟩ : ∃ X : Int, min M 1048576 = X := ⟨_, rfl⟩
  have hcl : ((clamp n : Nat) : Int) = X := by unfold clamp; omega
  rw [hcl] at hx
  generalize Fl.fI (clamp n) = fx at *
  have q := fdiv hy
  obtain ⟨w1, hw1⟩ : ∃ w1, w.setCell ⟨A, 0, none⟩ (.bool true) = w1 := ⟨_, rfl⟩
  obtain ⟨w2, hw2⟩ : ∃ w2, w1.setCell ⟨A, 1, none⟩ (.float .f32 fx) = w2 := ⟨_, rfl⟩
  obtain ⟨w3, hw3⟩ : ∃ w3, w2.setCell ⟨A, 2, none⟩ (.float .f32 y) = w3 := ⟨_, rfl⟩
  have m1 := m.s0 true
  rw [hw1] at m1
  have m2 := m1.s1 fx
  rw [hw2] at m2
  have m3 := m2.s2 y
  rw [hw3] at m3
  have HE : Hid (Mt w3 120 A true fx y ∧ Own A w w3) := ⟨m3, by rw [← hw3, ← hw2, ← hw1]; exact (((Own.refl A w).set 0 _).set 1 _).set 2 _⟩
  have f0 := m.f
  have f1 := m1.f
  have f2 := m2.f
  have d1 := m1.c1
  have d2 := m2.c2
  clear hcl m m1 m2 m3
  go_enter Tryz.func109, Tryz.ntmps109
  go_wp2
  ((try simp only [Exit.inBlock, Exit.then]); refine bodyPost_ret (results_none rfl _ _ _) rfl ?_)
  exact ⟨rfl, HE.out⟩
theorem dhear_next {w : World} {A : Nat} {a b : Nat} (m : Mt w 120 A true a b) (n : Int) {lo hi lo' hi' : Nat} {neg neg2 : Bool} {r p a' r2 p2 b' : Nat} (h1 : Fl.Went (Fl.fI (clamp n)) a 1090519040 lo hi neg r p a') (h2 : Fl.Went r b 1082130432 lo' hi' neg2 r2 p2 b') :
    Calls Tryz.prog 109 #[ptr A, .int .i64 n] w fun e w' => e = .returned (.tuple #[]) ∧ Mt w' 120 A true a' b' ∧ Own A w w' := by
  have c0 := m.c0
  have c1 := m.c1
  have c2 := m.c2
  have hx := Fl.ofI (clamp n) (by have := clamp_le n; omega)
  obtain ⟨M, hM⟩ : ∃ M : Int, max n 0 = M := ⟨_, rfl⟩
  obtain ⟨X, hX⟩ : ∃ X : Int, min M 1048576 = X := ⟨_, rfl⟩
  have hcl : ((clamp n : Nat) : Int) = X := by unfold clamp; omega
  rw [hcl] at hx
  generalize Fl.fI (clamp n) = fx at *
  have q1 := fsub h1.sub
  have q2 := fdiv h1.div
  have q3 := fadd h1.add
  have q4 := fsub h2.sub
  have q5 := fdiv h2.div
  have q6 := fadd h2.add
  have hfin := h1.fin
  have hpos := h1.pos
  obtain ⟨w1, hw1⟩ : ∃ w1, w.setCell ⟨A, 1, none⟩ (.float .f32 a') = w1 := ⟨_, rfl⟩
  obtain ⟨w2, hw2⟩ : ∃ w2, w1.setCell ⟨A, 2, none⟩ (.float .f32 b') = w2 := ⟨_, rfl⟩
  have m1 := m.s1 a'
  rw [hw1] at m1
  have m2 := m1.s2 b'
  rw [hw2] at m2
  have HE : Hid (Mt w2 120 A true a' b' ∧ Own A w w2) := ⟨m2, by rw [← hw2, ← hw1]; exact ((Own.refl A w).set 1 _).set 2 _⟩
  have f0 := m.f
  have f1 := m1.f
  have d1 := m1.c1
  have d2 := m1.c2
  generalize single.word neg p = pw at *
  generalize single.word neg2 r2 = ew2 at *
  generalize single.word neg2 p2 = pw2 at *
  clear hcl m m1 m2 h1 h2
  cases neg
  · have ho : (FloatKind.f32.format.order r 0 == some .lt) = false := by
      show (single.order r 0 == some .lt) = false
      rw [Fl.ordPos single r 0 (by rw [Fl.inf32]; omega) (by rw [Fl.inf32]; omega) Fl.bi_le32]
      rcases Nat.eq_zero_or_pos r with h | h
      · rw [h]; rfl
      · rw [Nat.compare_eq_gt.2 h]; rfl
    rw [Fl.word_false] at q1 q2
    go_enter Tryz.func109, Tryz.ntmps109
    go_wp2
    go_end0
    exact ⟨rfl, HE.out⟩
  · have ho : (FloatKind.f32.format.order (single.word true r) 0 == some .lt) = true := by
      show (single.order (single.word true r) 0 == some .lt) = true
      rw [Fl.ordNeg single r (by rw [Fl.inf32]; omega) (hpos rfl) Fl.bi_le32]; rfl
    have hn := neg_true r hfin
    generalize single.word true r = ew at *
    go_enter Tryz.func109, Tryz.ntmps109
    go_wp2
    go_end0
    exact ⟨rfl, HE.out⟩
/-- one step of both -/
theorem hear_both {h : Bool} {a b : Nat} (ok : MOk h a b) (n : Int) : ∃ a' b', (∀ w A, Mt w 136 A h a b → Calls Tryz.prog 86 #[ptr A, .int .i64 n] w fun e w' => e = .returned (.tuple #[]) ∧ Mt w' 136 A true a' b' ∧ Own A w w') ∧
    (∀ w A, Mt w 120 A h a b → Calls Tryz.prog 109 #[ptr A, .int .i64 n] w fun e w' => e = .returned (.tuple #[]) ∧ Mt w' 120 A true a' b' ∧ Own A w w') ∧ MOk true a' b' := by
  have hx := fI_top (clamp_le n)
  cases h
  · obtain ⟨y, hy, hyx⟩ := Fl.half_fin _ hx
    exact ⟨_, y, fun w A m => hear_first m n hy, fun w A m => dhear_first m n hy, hx, by omega, fun h => by cases h⟩
  · obtain ⟨neg, r, p, a', g1⟩ := Fl.goes 3 1090519040 (by omega) Fl.eight32 a (Fl.fI (clamp n)) 0 1233125376 (Nat.zero_le _) ok.ma (Nat.zero_le _) hx (by omega) (Fl.top_200 (Nat.le_refl _))
    have hr : r ≤ 1233125376 := by rw [g1.is_]; exact diff_top hx ok.ma (by omega)
    obtain ⟨neg2, r2, p2, b', g2⟩ := Fl.goes 2 1082130432 (by omega) Fl.fourth32 b r 0 1233125376 (Nat.zero_le _) ok.mb (Nat.zero_le _) hr (by omega) (Fl.top_200 (Nat.le_refl _))
    exact ⟨a', b', fun w A m => hear_next m n g1 g2, fun w A m => dhear_next m n g1 g2, g1.hi, g2.hi, fun h => by cases h⟩
end Go.Proofs.YtfcbjcebkahehaaGreatDoor.Cl
