/- PacePlays: its walk. -/
import Derived.Test.YtpimdiliibokbaaBoWe
namespace Go.Proofs.Ytpimdiliibokbaa
open Go.RowKit Ieee
structure MOk (h : Bool) (a b : Nat) : Prop where
  ma : a ≤ 1233125376
  mb : b ≤ 1233125376
  z : h = false → a = 0 ∧ b = 0
theorem fI_top {n : Nat} (h : n ≤ 1048576) : Fl.fI n ≤ 1233125376 := by
  have := Fl.fI_mono h
  rwa [Fl.fI20] at this
theorem diff_top {x a hi : Nat} (hx : x ≤ hi) (ha : a ≤ hi) (hh : hi < 2139095040) : Fl.RG 23 0 ((Fl.sizeOf single x - Fl.sizeOf single a) + (Fl.sizeOf single a - Fl.sizeOf single x)) ≤ hi := by
  have h1 := Fl.size_le hx
  have h2 := Fl.size_le ha
  exact Fl.RG_le (by rw [Nat.pow_zero, Nat.mul_one]; omega) hh
/-- one step of both -/
theorem hear_both {h : Bool} {a b : Nat} (ok : MOk h a b) (n : Int) : ∃ a' b', (∀ w A, Mt w 46 A h a b → Calls Try.prog 19 #[ptr A, .int .i64 n] w fun e w' => e = .returned (.tuple #[]) ∧ Mt w' 46 A true a' b' ∧ Own A w w') ∧
    (∀ w A, Mt w 36 A h a b → Calls Try.prog 20 #[ptr A, .int .i64 n] w fun e w' => e = .returned (.tuple #[]) ∧ Mt w' 36 A true a' b' ∧ Own A w w') ∧ MOk true a' b' := by
  have hx := fI_top (clamp_le n)
  cases h
  · obtain ⟨y, hy, hyx⟩ := Fl.half_fin _ hx
    exact ⟨_, y, fun w A m => hear_first m n hy, fun w A m => dhear_first m n hy, hx, by omega, fun h => by cases h⟩
  · obtain ⟨neg, r, p, a', g1⟩ := Fl.goes 3 1090519040 (by omega) Fl.eight32 a (Fl.fI (clamp n)) 0 1233125376 (Nat.zero_le _) ok.ma (Nat.zero_le _) hx (by omega) (Fl.top_200 (Nat.le_refl _))
    have hr : r ≤ 1233125376 := by rw [g1.is_]; exact diff_top hx ok.ma (by omega)
    obtain ⟨neg2, r2, p2, b', g2⟩ := Fl.goes 2 1082130432 (by omega) Fl.fourth32 b r 0 1233125376 (Nat.zero_le _) ok.mb (Nat.zero_le _) hr (by omega) (Fl.top_200 (Nat.le_refl _))
    exact ⟨a', b', fun w A m => hear_next m n g1 g2, fun w A m => dhear_next m n g1 g2, g1.hi, g2.hi, fun h => by cases h⟩
theorem dguess_u {w : World} {A : Nat} {h : Bool} {a b : Nat} (m : Mt w 36 A h a b) (ok : MOk h a b) : Calls Try.prog 18 #[ptr A] w fun e w' => e = .returned (.int .i64 (gsP a b)) ∧ w' = w := by
  cases h
  · obtain ⟨e1, e2⟩ := ok.z rfl
    subst e1 e2
    have : gsP 0 0 = 0 := by unfold gsP; rw [Fl.ups_zero]; rfl
    rw [this]
    exact dguess_no m
  · exact dguess_any m ok.ma ok.mb
theorem Mt.own {w w' : World} {t A B : Nat} {h : Bool} {a b : Nat} (m : Mt w t B h a b) (o : Own A w w') (hne : B ≠ A) : Mt w' t B h a b := ⟨(o.kept B m.lt hne).trans m.at_⟩
theorem Mt.below {w w' : World} {t B : Nat} {h : Bool} {a b : Nat} (m : Mt w t B h a b) (o : Below w.heap.size w w') : Mt w' t B h a b := ⟨(o.block B m.lt).trans m.at_⟩
structure PS (W w : World) (A B X Y : Nat) (h1 : Bool) (a1 b1 : Nat) (h2 : Bool) (a2 b2 : Nat) : Prop where
  be : Below W.heap.size W w
  mA : Mt w 46 A h1 a1 b1
  mX : Mt w 36 X h1 a1 b1
  mB : Mt w 46 B h2 a2 b2
  mY : Mt w 36 Y h2 a2 b2
  ok1 : MOk h1 a1 b1
  ok2 : MOk h2 a2 b2
  sz : W.heap.size ≤ w.heap.size
structure Df (n A B X Y : Nat) : Prop where
  ab : A ≠ B
  ax : A ≠ X
  ay : A ≠ Y
  bx : B ≠ X
  by_ : B ≠ Y
  xy : X ≠ Y
  la : n ≤ A
  lb : n ≤ B
  lx : n ≤ X
  ly : n ≤ Y
section
variable {W w w1 w2 : World} {A B X Y : Nat} {h1 h2 : Bool} {a1 b1 a2 b2 a' b' : Nat}
theorem PS.first (s : PS W w A B X Y h1 a1 b1 h2 a2 b2) (d : Df W.heap.size A B X Y) (m1 : Mt w1 46 A true a' b') (o1 : Own A w w1) (m2 : Mt w2 36 X true a' b') (o2 : Own X w1 w2) (ok : MOk true a' b') : PS W w2 A B X Y true a' b' h2 a2 b2 :=
  ⟨o2.below (o1.below s.be d.la s.sz) d.lx (Nat.le_trans s.sz o1.size), m1.own o2 d.ax, m2, (s.mB.own o1 d.ab.symm).own o2 d.bx, (s.mY.own o1 d.ay.symm).own o2 d.xy.symm, ok, s.ok2, Nat.le_trans s.sz (Nat.le_trans o1.size o2.size)⟩
theorem PS.second (s : PS W w A B X Y h1 a1 b1 h2 a2 b2) (d : Df W.heap.size A B X Y) (m1 : Mt w1 46 B true a' b') (o1 : Own B w w1) (m2 : Mt w2 36 Y true a' b') (o2 : Own Y w1 w2) (ok : MOk true a' b') : PS W w2 A B X Y h1 a1 b1 true a' b' :=
  ⟨o2.below (o1.below s.be d.lb s.sz) d.ly (Nat.le_trans s.sz o1.size), (s.mA.own o1 d.ab).own o2 d.ay, (s.mX.own o1 d.bx.symm).own o2 d.xy, m1.own o2 d.by_, m2, s.ok1, ok, Nat.le_trans s.sz (Nat.le_trans o1.size o2.size)⟩
theorem PS.drewN (s : PS W w A B X Y h1 a1 b1 h2 a2 b2) (k : Nat) : PS W (w.drewN k) A B X Y h1 a1 b1 h2 a2 b2 :=
  ⟨⟨s.be.os, s.be.tape, s.be.output, s.be.size, s.be.block⟩, ⟨s.mA.at_⟩, ⟨s.mX.at_⟩, ⟨s.mB.at_⟩, ⟨s.mY.at_⟩, s.ok1, s.ok2, s.sz⟩
end
theorem bld36 (w : World) : (Instr.build 36 #[]).run Try.prog w = .ok (.agg #[.bool false, .float .f32 0, .float .f32 0]) w := by kernel_rfl
theorem eq32 {r : Nat} (h : r ≤ 2139095040) : (FloatKind.f32.format.order r r != some .eq) = false := by
  rw [ord32 r r h h, Nat.compare_eq_eq.2 rfl]; rfl
set_option maxHeartbeats 4000000 in
set_option maxRecDepth 8000 in
theorem plays_any (oS : Option Addr) (sb off len cap : Nat) (T : Nat → Bool × Int) (w : World) (hoa : 0 < len → oS = some ⟨sb, off, none⟩) (ht0 : ∀ i, i < len → w.cell? ⟨sb, off + i * 2, none⟩ = some (.bool (T i).1)) (ht1 : ∀ i, i < len → w.cell? ⟨sb, off + i * 2 + 1, none⟩ = some (.int .i64 (T i).2)) (hlen : len ≤ 140737488355328) :
    Calls Try.prog 4 #[.slice oS len cap] w fun e w' => e = .returned (.bool true) ∧ Below w.heap.size w w' := by
  have HL := hid hlen
  have HT := hid (And.intro ht0 ht1)
  have HA := hid hoa
  clear hlen ht0 ht1 hoa
  have hb36 := bld36
  go_enter Try.func4, Try.ntmps4
  go_wp2_with fail
  refine (awake_any w).mono ?_
  rintro _ w1 ⟨rfl, e1⟩
  have HB1 := hid e1
  clear e1
  go_wp2_with fail
  refine (newMeter_any w1).mono ?_
  rintro _ w2 ⟨rfl, m2, e2⟩
  obtain ⟨A, hA⟩ : ∃ A, w1.heap.size = A := ⟨_, rfl⟩
  rw [hA] at m2 e2 ⊢
  have H2 := hid (And.intro m2 e2)
  clear m2 e2
  go_wp2_with fail
  refine (newMeter_any w2).mono ?_
  rintro _ w3 ⟨rfl, m3, e3⟩
  obtain ⟨B, hB⟩ : ∃ B, w2.heap.size = B := ⟨_, rfl⟩
  rw [hB] at m3 e3 ⊢
  have H3 := hid (And.intro m3 e3)
  clear m3 e3
  obtain ⟨w4, hw4⟩ : ∃ w4, w3.alloc (.cells #[.bool false, .float .f32 0, .float .f32 0] 36) = w4 := ⟨_, rfl⟩
  obtain ⟨X, hX⟩ : ∃ X, w3.heap.size = X := ⟨_, rfl⟩
  obtain ⟨w5, hw5⟩ : ∃ w5, w4.alloc (.cells #[.bool false, .float .f32 0, .float .f32 0] 36) = w5 := ⟨_, rfl⟩
  obtain ⟨Y, hY⟩ : ∃ Y, w4.heap.size = Y := ⟨_, rfl⟩
  have H5 : Hid (PS w w5 A B X Y false 0 0 false 0 0 ∧ Df w.heap.size A B X Y) := by
    have e1 := HB1.out
    obtain ⟨m2, e2⟩ := H2.out
    obtain ⟨m3, e3⟩ := H3.out
    have s1 := e1.size
    have l2 := m2.lt
    have l3 := m3.lt
    have e4 : Below w3.heap.size w3 w4 := by rw [← hw4]; exact below_box _ _
    have m4 : Mt w4 36 X false 0 0 := ⟨by rw [← hw4, ← hX]; exact (MapKept.heap_alloc w3 _).1⟩
    have e5 : Below w4.heap.size w4 w5 := by rw [← hw5]; exact below_box _ _
    have m5 : Mt w5 36 Y false 0 0 := ⟨by rw [← hw5, ← hY]; exact (MapKept.heap_alloc w4 _).1⟩
    have l4 := m4.lt
    have s2 := e2.size
    have s3 := e3.size
    have s4 := e4.size
    have s5 := e5.size
    have ok : MOk false 0 0 := ⟨by omega, by omega, fun _ => ⟨rfl, rfl⟩⟩
    rw [← hB] at e3
    rw [← hA] at e2
    refine ⟨⟨(((e1.trans (e2.mono (by omega))).trans (e3.mono (by omega))).trans (e4.mono (by omega))).trans (e5.mono (by omega)), ((m2.below e3).below e4).below e5, m4.below e5, (m3.below e4).below e5, m5, ok, ok, by omega⟩, ⟨by omega, by omega, by omega, by omega, by omega, by omega, by omega, by omega, by omega, by omega⟩⟩
  have HD := hid H5.out.2
  clear HB1 H2 H3
  go_wp2_with fail
  go_loopw [8] (fun u8 wr => ∃ (i : Nat) (h1 : Bool) (a1 b1 : Nat) (h2 : Bool) (a2 b2 : Nat), u8 = .int .i64 i ∧ i ≤ len ∧ PS w wr A B X Y h1 a1 b1 h2 a2 b2) (fun u8 _ => len - (intOf u8).toNat)
  case atStart => exact ⟨0, false, 0, 0, false, 0, 0, rfl, Nat.zero_le _, H5.out.1⟩
  case round =>
    obtain ⟨i, h1, a1, b1, h2, a2, b2, rfl, hi, hs⟩ := hrel
    obtain ⟨wo, hwo⟩ : ∃ wo, wo = wr := ⟨_, rfl⟩
    subst hwo
    have HS := hid hs
    clear hs H5 hw4 hw5 hX hY hA hB hb36
    have hile : (i : Int) ≤ (len : Int) := by omega
    have G15A : Hid (∀ k, Calls Try.prog 15 #[ptr A] (wo.drewN k) fun e w'' => e = .returned (.float .f32 a1) ∧ ∃ k', w'' = wo.drewN k') := fun k => (mean_any (HS.out.drewN k).mA).mono fun e w'' ⟨q1, q2⟩ => ⟨q1, k, q2⟩
    have G16A : Hid (∀ k, Calls Try.prog 16 #[ptr A] (wo.drewN k) fun e w'' => e = .returned (.float .f32 b1) ∧ ∃ k', w'' = wo.drewN k') := fun k => (spread_any (HS.out.drewN k).mA).mono fun e w'' ⟨q1, q2⟩ => ⟨q1, k, q2⟩
    have G15B : Hid (∀ k, Calls Try.prog 15 #[ptr B] (wo.drewN k) fun e w'' => e = .returned (.float .f32 a2) ∧ ∃ k', w'' = wo.drewN k') := fun k => (mean_any (HS.out.drewN k).mB).mono fun e w'' ⟨q1, q2⟩ => ⟨q1, k, q2⟩
    have G16B : Hid (∀ k, Calls Try.prog 16 #[ptr B] (wo.drewN k) fun e w'' => e = .returned (.float .f32 b2) ∧ ∃ k', w'' = wo.drewN k') := fun k => (spread_any (HS.out.drewN k).mB).mono fun e w'' ⟨q1, q2⟩ => ⟨q1, k, q2⟩
    obtain ⟨g1, hg1⟩ : ∃ g1, gsP a1 b1 = g1 := ⟨_, rfl⟩
    obtain ⟨g2, hg2⟩ : ∃ g2, gsP a2 b2 = g2 := ⟨_, rfl⟩
    have G17A : Hid (∀ k, Calls Try.prog 17 #[ptr A] (wo.drewN k) fun e w'' => e = .returned (.int .i64 g1) ∧ ∃ k', w'' = wo.drewN k') := fun k => by rw [← hg1]; exact (guess_any (HS.out.drewN k).mA HS.out.ok1.ma HS.out.ok1.mb).mono fun e w'' ⟨q1, q2⟩ => ⟨q1, k, q2⟩
    have G18X : Hid (∀ k, Calls Try.prog 18 #[ptr X] (wo.drewN k) fun e w'' => e = .returned (.int .i64 g1) ∧ ∃ k', w'' = wo.drewN k') := fun k => by rw [← hg1]; exact (dguess_u (HS.out.drewN k).mX HS.out.ok1).mono fun e w'' ⟨q1, q2⟩ => ⟨q1, k, q2⟩
    have G17B : Hid (∀ k, Calls Try.prog 17 #[ptr B] (wo.drewN k) fun e w'' => e = .returned (.int .i64 g2) ∧ ∃ k', w'' = wo.drewN k') := fun k => by rw [← hg2]; exact (guess_any (HS.out.drewN k).mB HS.out.ok2.ma HS.out.ok2.mb).mono fun e w'' ⟨q1, q2⟩ => ⟨q1, k, q2⟩
    have G18Y : Hid (∀ k, Calls Try.prog 18 #[ptr Y] (wo.drewN k) fun e w'' => e = .returned (.int .i64 g2) ∧ ∃ k', w'' = wo.drewN k') := fun k => by rw [← hg2]; exact (dguess_u (HS.out.drewN k).mY HS.out.ok2).mono fun e w'' ⟨q1, q2⟩ => ⟨q1, k, q2⟩
    have x1 : ∀ k, (wo.drewN k).cell? ⟨X, 1, none⟩ = some (.float .f32 a1) := fun k => (HS.out.drewN k).mX.c1
    have x2 : ∀ k, (wo.drewN k).cell? ⟨X, 2, none⟩ = some (.float .f32 b1) := fun k => (HS.out.drewN k).mX.c2
    have y1 : ∀ k, (wo.drewN k).cell? ⟨Y, 1, none⟩ = some (.float .f32 a2) := fun k => (HS.out.drewN k).mY.c1
    have y2 : ∀ k, (wo.drewN k).cell? ⟨Y, 2, none⟩ = some (.float .f32 b2) := fun k => (HS.out.drewN k).mY.c2
    have o1 := eq32 (r := a1) (by have := HS.out.ok1.ma; omega)
    have o2 := eq32 (r := b1) (by have := HS.out.ok1.mb; omega)
    have o3 := eq32 (r := a2) (by have := HS.out.ok2.ma; omega)
    have o4 := eq32 (r := b2) (by have := HS.out.ok2.mb; omega)
    have kg1 : (g1 == g1) = true := by simp
    have kg2 : (g2 == g2) = true := by simp
    clear hg1 hg2
    go_wp2_with fail
    refine wp_region_class (fun k => wo.drewN k) (by kernel_rfl) (by kernel_rfl) ⟨1, rfl⟩ ?_
    repeat (go_big_quiet_step (first | (go_at_call 15; first | with_reducible exact G15A.out _ | with_reducible exact G15B.out _) | (go_at_call 16; first | with_reducible exact G16A.out _ | with_reducible exact G16B.out _) | (go_at_call 17; first | with_reducible exact G17A.out _ | with_reducible exact G17B.out _) | (go_at_call 18; first | with_reducible exact G18X.out _ | with_reducible exact G18Y.out _)))
    refine wpQuiet_nil ?_
    rintro wd ⟨k, hwd⟩
    have HX := hid (HS.out.drewN k)
    rw [← show wd = wo.drewN k from hwd] at HX
    clear HS G15A G16A G15B G16B G17A G17B G18X G18Y x1 x2 y1 y2 o1 o2 o3 o4 kg1 kg2 hwd
    by_cases hlt : i < len
    · have hi' : (i : Int) < (len : Int) := by omega
      have hne : ((i : Int) == (len : Int)) = false := by simp; omega
      have hoa2 := HA.out (by omega)
      subst hoa2
      have hwi : wrap64 ((i : Int) + 1) = (i : Int) + 1 := by have h1 := HL.out; unfold wrap64; omega
      have t0 : wd.cell? ⟨sb, off + i * 2, none⟩ = some (.bool (T i).1) := (World.cell?_of_block (a := ⟨sb, off + i * 2, none⟩) (HX.out.be.block sb (World.block_lt_of_cell? w ⟨sb, off + i * 2, none⟩ (HT.out.1 i hlt)))).trans (HT.out.1 i hlt)
      have t1 : wd.cell? ⟨sb, off + i * 2 + 1, none⟩ = some (.int .i64 (T i).2) := (World.cell?_of_block (a := ⟨sb, off + i * 2 + 1, none⟩) (HX.out.be.block sb (World.block_lt_of_cell? w ⟨sb, off + i * 2 + 1, none⟩ (HT.out.2 i hlt)))).trans (HT.out.2 i hlt)
      obtain ⟨n, hn⟩ : ∃ n, (T i).2 = n := ⟨_, rfl⟩
      obtain ⟨ot, hot⟩ : ∃ ot, (T i).1 = ot := ⟨_, rfl⟩
      rw [hn] at t1
      rw [hot] at t0
      have HN := hid hn
      clear hn hot
      cases ot
      · have HU := hid (hear_both HX.out.ok1 n)
        obtain ⟨a', b', q1, q2, q3⟩ := HU.out
        have HQ1 := hid (q1 wd A HX.out.mA)
        have HQ2 := hid q2
        have HQ3 := hid q3
        clear q1 q2 q3 HU
        go_wp2_with fail
        refine HQ1.out.mono ?_
        rintro _ w6 ⟨rfl, m6, o6⟩
        have H6 := hid (And.intro m6 o6)
        have t1' : w6.cell? ⟨sb, off + i * 2 + 1, none⟩ = some (.int .i64 n) := by
          have hb := o6.below HX.out.be HD.out.la HX.out.sz
          rw [← HN.out]
          exact (World.cell?_of_block (a := ⟨sb, off + i * 2 + 1, none⟩) (hb.block sb (World.block_lt_of_cell? w ⟨sb, off + i * 2 + 1, none⟩ (HT.out.2 i hlt)))).trans (HT.out.2 i hlt)
        have HQ4 := hid (HQ2.out w6 X (HX.out.mX.own o6 HD.out.ax.symm))
        clear m6 o6 t0 t1 HQ1 HQ2
        go_wp2_with fail
        refine HQ4.out.mono ?_
        rintro _ w7 ⟨rfl, m7, o7⟩
        have HE := hid (HX.out.first HD.out H6.out.1 H6.out.2 m7 o7 HQ3.out)
        clear m7 o7 H6 t1' HQ4 HQ3 HX
        go_wp2
        go_roundw
        case rel => exact ⟨i + 1, _, _, _, _, _, _, by first | (rw [hwi]; rfl) | rfl, hlt, HE.out⟩
        case measure => first | exact meas hwi hi' | exact meas rfl hi'
      · have HU := hid (hear_both HX.out.ok2 n)
        obtain ⟨a', b', q1, q2, q3⟩ := HU.out
        have HQ1 := hid (q1 wd B HX.out.mB)
        have HQ2 := hid q2
        have HQ3 := hid q3
        clear q1 q2 q3 HU
        go_wp2_with fail
        refine HQ1.out.mono ?_
        rintro _ w6 ⟨rfl, m6, o6⟩
        have H6 := hid (And.intro m6 o6)
        have t1' : w6.cell? ⟨sb, off + i * 2 + 1, none⟩ = some (.int .i64 n) := by
          have hb := o6.below HX.out.be HD.out.lb HX.out.sz
          rw [← HN.out]
          exact (World.cell?_of_block (a := ⟨sb, off + i * 2 + 1, none⟩) (hb.block sb (World.block_lt_of_cell? w ⟨sb, off + i * 2 + 1, none⟩ (HT.out.2 i hlt)))).trans (HT.out.2 i hlt)
        have HQ4 := hid (HQ2.out w6 Y (HX.out.mY.own o6 HD.out.by_.symm))
        clear m6 o6 t0 t1 HQ1 HQ2
        go_wp2_with fail
        refine HQ4.out.mono ?_
        rintro _ w7 ⟨rfl, m7, o7⟩
        have HE := hid (HX.out.second HD.out H6.out.1 H6.out.2 m7 o7 HQ3.out)
        clear m7 o7 H6 t1' HQ4 HQ3 HX
        go_wp2
        go_roundw
        case rel => exact ⟨i + 1, _, _, _, _, _, _, by first | (rw [hwi]; rfl) | rfl, hlt, HE.out⟩
        case measure => first | exact meas hwi hi' | exact meas rfl hi'
    · obtain rfl : i = len := by omega
      have HE := hid HX.out.be
      have heq : ((i : Int) == (i : Int)) = true := by simp
      clear HX
      go_wp2
      go_ret
      exact ⟨rfl, HE.out⟩
end Go.Proofs.Ytpimdiliibokbaa
