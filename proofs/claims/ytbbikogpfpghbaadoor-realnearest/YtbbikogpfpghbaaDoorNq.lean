/- The statement on what is nearest: whatever the input, its walk answers true, and nothing that was there has turned. -/
import Derived.Test.YtbbikogpfpghbaaDoorNc
import Derived.Deep.CutBlock
import Derived.Deep.DeepCutAuto
namespace Go.Proofs.YtbbikogpfpghbaaDoor
open Go.RowKit
attribute [local go_sem] unary_negf

/-- The narrow number of one that is none, and of one that is. -/
theorem eq_wid (x : Nat) (hx : x < 18446744073709551616) (hn : nan64 x = false) (W : World) :
    (FloatKind.f64.format.order (widW (narF x) W) x == some .eq) = ((c64 (wid (narF x)) : Int) == (c64 x : Int)) := by
  obtain ⟨hl, hnn⟩ := narF_lt x hx
  have hnf := hnn hn
  have e1 : widW (narF x) W = wid (narF x) := by unfold widW; rw [hnf]; rfl
  have hc := wid_conv _ hl hnf
  rw [e1, c64_num _ hc.2.2, c64_num x hn]
  obtain ⟨s, r, hr, rfl, hd, _, _⟩ := splitW x hx
  rw [hn] at hd
  have hle : r ≤ 9218868437227405312 := by simpa using hd.symm
  have hw : ∃ a, a ≤ 9218868437227405312 ∧ wid (narF (Ieee.double.word s r)) = Ieee.double.word s a := by
    rw [narF_ngr s r hle]
    by_cases hi : ngr r = 2139095040
    · rw [hi, wid_inf]; exact ⟨_, Nat.le_refl _, rfl⟩
    · obtain ⟨a, ha, h1, _⟩ := wid_size s (ngr r) (by have := ngr_le r; omega)
      exact ⟨a, by omega, h1⟩
  obtain ⟨a, ha, hw⟩ := hw
  rw [hw, ord64 s s a r ha hle]
  have hiff : Ieee.double.word s a = Ieee.double.word s r ↔ a = r := ⟨fun h => Fl.word_inj _ _ _ _ h, fun h => by rw [h]⟩
  rw [Bool.eq_iff_iff, beq_iff_eq, beq_iff_eq, Int.natCast_inj, hiff]
  unfold Fl.sv
  constructor
  · intro h
    have h2 := Option.some.inj h
    rw [Int.compare_eq_eq] at h2
    cases s <;> simp only [Bool.false_eq_true, if_false, if_true] at h2 <;> omega
  · intro h; rw [h]; simp

theorem sw_lt (s : Bool) (g : Nat) (hg : g < 2139095040) : ((Ieee.single.word s g : Nat) : Int) * 2 % 4294967296 = 2 * (g : Int) ∧ 0 ≤ ((Ieee.single.word s g : Nat) : Int) ∧ ((Ieee.single.word s g : Nat) : Int) < 4294967296 := by
  cases s
  · rw [Fl.word_false]; omega
  · rw [Fl.word_true, Fl.sw32]; omega

/-- What the nearest one's bits are: those of none or of an infinite one; or a finite one's. -/
theorem near_split (x : Nat) (hx : x < 18446744073709551616) :
    (((c32 (narF x) : Int) * 2 % 4294967296 / 16777216 == 255) = true) ∨ ∃ s r, x = Ieee.double.word s r ∧ r < 9218868437227405312 ∧ ngr r < 2139095040 ∧ narF x = Ieee.single.word s (ngr r) ∧ c32 (narF x) = Ieee.single.word s (ngr r) := by
  cases hn : nan64 x with
  | true =>
    left
    have e : narF x = 2143289344 := by unfold narF; rw [hn]; rfl
    rw [e]; decide
  | false =>
    obtain ⟨s, r, hr, rfl, hd, _, _⟩ := splitW x hx
    rw [hn] at hd
    have hle : r ≤ 9218868437227405312 := by simpa using hd.symm
    have h1 := narF_ngr s r hle
    have h2 := ngr_le r
    have h3 := nan32_word s (ngr r) h2
    by_cases hi : ngr r = 2139095040
    · left
      rw [h1, hi]
      cases s <;> decide
    · right
      have hri : r ≠ 9218868437227405312 := by
        intro e; unfold ngr at hi; rw [if_pos e] at hi; exact hi rfl
      exact ⟨s, r, rfl, by omega, by omega, h1, by rw [h1, c32_num _ h3.1]⟩

/-- The neighbours' bits. -/
theorem nb_bits (s : Bool) (g : Nat) (hg : g < 2139095040) : (((Ieee.single.word s g : Nat) : Int) + 1) % 4294967296 = ((Ieee.single.word s (g + 1) : Nat) : Int) ∧ (1 ≤ g → (((Ieee.single.word s g : Nat) : Int) - 1) % 4294967296 = ((Ieee.single.word s (g - 1) : Nat) : Int)) ∧
    (g = 0 → ∃ m : Nat, (((Ieee.single.word s g : Nat) : Int) - 1) % 4294967296 = (m : Int) ∧ m < 4294967296 ∧ nan32 m = true ∧ m ≠ 2143289344) ∧ ((Ieee.single.word s g : Nat) : Int) % 2 = ((g % 2 : Nat) : Int) := by
  refine ⟨?_, ?_, ?_, ?_⟩
  · cases s
    · rw [Fl.word_false, Fl.word_false]; omega
    · rw [Fl.word_true, Fl.word_true, Fl.sw32]; omega
  · intro h
    cases s
    · rw [Fl.word_false, Fl.word_false]; omega
    · rw [Fl.word_true, Fl.word_true, Fl.sw32]; omega
  · intro h
    subst h
    cases s
    · exact ⟨4294967295, by decide, by decide, by decide, by decide⟩
    · exact ⟨2147483647, by decide, by decide, by decide, by decide⟩
  · cases s
    · rw [Fl.word_false]; omega
    · rw [Fl.word_true, Fl.sw32]; omega

/-- All that a round asks at a neighbour. -/
theorem nb_round (s : Bool) (r g g' : Nat) (x : Nat) (N : Int) (hN : ((Ieee.single.word s g : Nat) : Int) = N) (hG : g = ngr r ∧ r < 9218868437227405312 ∧ g < 2139095040 ∧ x = Ieee.double.word s r ∧ narF x = Ieee.single.word s g) (hg' : g' = g + 1 ∨ g' + 1 = g) :
    ∃ (h xf xh pw qw pa qa : Nat) (bp bq be : Bool), Ieee.single.word s g' = h ∧ (∀ W, (convert 25 23 (.float .f32 (Ieee.single.word s g))).run Tryd.prog W = .ok (.float .f64 xf) W) ∧ (∀ W, (convert 25 23 (.float .f32 h)).run Tryd.prog W = .ok (.float .f64 xh) W) ∧
      (∀ W, (binOp .sub 23 (.float .f64 x) (.float .f64 xf)).run Tryd.prog W = .ok (.float .f64 pw) W) ∧ (∀ W, (binOp .sub 23 (.float .f64 x) (.float .f64 xh)).run Tryd.prog W = .ok (.float .f64 qw) W) ∧
      (FloatKind.f64.format.order pw 0 == some .lt) = bp ∧ (FloatKind.f64.format.order qw 0 == some .lt) = bq ∧ (if bp then Op.negFloat .f64 pw else pw) = pa ∧ (if bq then Op.negFloat .f64 qw else qw) = qa ∧
      (FloatKind.f64.format.order qa pa == some .lt) = false ∧ (FloatKind.f64.format.order qa pa == some .eq) = be ∧ (be = true → (N % 2 == 1) = false) ∧
      (∀ w, Calls Tryd.prog 14 #[.int .u32 h] w fun e w' => e = .returned (.tuple #[.float .f32 h, .int .i64 0]) ∧ w' = w) := by
  obtain ⟨h1, h2, h3, h4, h5⟩ := hG
  obtain ⟨pw, qw, bp, bq, pa, qa, be, f1, f2, f3, f4, f5, f6, f7, f8, f9⟩ := nb_fact s r g g' h2 h1 h3 hg'
  have hw1 := nan32_word s g (by omega)
  have hw2 := nan32_word s g' (by omega)
  rw [← h4] at f1 f2
  refine ⟨_, wid (Ieee.single.word s g), wid (Ieee.single.word s g'), pw, qw, pa, qa, bp, bq, be, rfl, ?_, ?_, ?_, ?_, f3, f4, f5, f6, f7, f8, ?_, ?_⟩
  · exact fun W => run_convert_float_float (P := Tryd.prog) W 25 23 .f32 .f64 _ _ (by kernel_rfl) Tryd.underlying23 (wid_conv _ hw1.2 hw1.1).1
  · exact fun W => run_convert_float_float (P := Tryd.prog) W 25 23 .f32 .f64 _ _ (by kernel_rfl) Tryd.underlying23 (wid_conv _ hw2.2 hw2.1).1
  · exact ari .sub 23 .f64 _ _ _ f1
  · exact ari .sub 23 .f64 _ _ _ f2
  · intro hb
    have h0 := f9 hb
    have := (nb_bits s g h3).2.2.2
    rw [← hN, beq_eq_false_iff_ne]
    omega
  · exact fun w => rfrom32_ok _ w hw2.2 (.inl hw2.1)

set_option maxRecDepth 4000 in
set_option maxHeartbeats 40000000 in
theorem realNearest_walk (a b : Int) (w : World) (hR : Rd w) :
    Calls Tryd.prog 5 #[.int .i64 a, .int .i64 b] w fun e w' => e = .returned (.bool true) ∧ Below w.heap.size w w' := by
  have HW : Hid (∀ (a : Int) w, Calls Tryd.prog 10 #[.int .i64 a] w fun e w' => ∃ x k, x < 18446744073709551616 ∧ e = .returned (.float .f64 x) ∧ w' = w.drewN k) := fun a w => by
    obtain ⟨na, ha, hna⟩ := wrapU64 a
    exact (wide_any a na w ha hna).mono fun e w' ⟨x, k, h1, _, _, h4, h5⟩ => ⟨x, k, h1, h4, h5⟩
  have HR : Hid (Rd w) := hR
  clear hR
  go_enter Tryd.func5, Tryd.ntmps5
  go_wp2_with fail
  refine (awake_any _ HR.out).mono ?_
  rintro e w1 ⟨rfl, hB⟩
  have HB : Hid (Below w.heap.size w w1) := hB
  clear hB
  go_wp2_with fail
  refine (HW.out _ _).mono ?_
  rintro e w2 ⟨x, k1, hx, rfl, rfl⟩
  go_wp2_with fail
  refine (HW.out _ _).mono ?_
  rintro e w2 ⟨y, k2, hy, rfl, rfl⟩
  have HX : Hid (x < 18446744073709551616) := hx
  have HY : Hid (y < 18446744073709551616) := hy
  have HM := mono_le x y hx hy
  have HM : Hid _ := HM
  clear hx hy
  go_wp2_with fail
  refine (narrow_real x _ HX.out).mono ?_
  rintro e w2 ⟨rfl, rfl⟩
  go_wp2_with fail
  refine (narrow_real y _ HY.out).mono ?_
  rintro e w2 ⟨rfl, rfl⟩
  go_upto_region 6 with fail
  obtain ⟨sm, hsm⟩ : ∃ sm, ((c64 (wid (narF x)) : Int) == (c64 x : Int)) = sm := ⟨_, rfl⟩
  rw [hsm]
  go_cut [70] (fun v wx => v = .bool false ∧ ∃ k, wx = w1.drewN k)
  case first =>
    have hcv := fun W => run_wid (narF x) W (narF_lt x HX.out).1
    cases hn : nan64 x with
    | true =>
      have hxy := order_nan x y HX.out hn
      have hxx := order_nan x x HX.out hn
      have hfx := fun W => order_nan' (widW (narF x) W) x HX.out hn
      obtain rfl : sm = true := by
        rw [← hsm, c64_nan x hn]
        have e : narF x = 2143289344 := by unfold narF; rw [hn]; rfl
        rw [e]; decide
      clear hsm hn
      go_wp2
      go_meet
      exact ⟨rfl, _, rfl⟩
    | false =>
      have hxx : (FloatKind.f64.format.order x x != some .eq) = false := by rw [nan64_order x HX.out, hn]
      have hq : ∀ W, (FloatKind.f64.format.order (widW (narF x) W) x == some .eq) = sm := fun W => by rw [eq_wid x HX.out hn W, hsm]
      clear hsm hn
      by_cases c1 : (FloatKind.f64.format.order x y == some .lt || FloatKind.f64.format.order x y == some .eq) = true
      · have d1 := HM.out.1 c1
        by_cases c2 : (FloatKind.f64.format.order x y == some .gt || FloatKind.f64.format.order x y == some .eq) = true
        · have d2 := HM.out.2 c2
          cases sm
          · go_wp2
            go_meet
            exact ⟨rfl, _, rfl⟩
          · go_wp2
            go_meet
            exact ⟨rfl, _, rfl⟩
        · rw [Bool.not_eq_true] at c2
          cases sm
          · go_wp2
            go_meet
            exact ⟨rfl, _, rfl⟩
          · go_wp2
            go_meet
            exact ⟨rfl, _, rfl⟩
      · rw [Bool.not_eq_true] at c1
        by_cases c2 : (FloatKind.f64.format.order x y == some .gt || FloatKind.f64.format.order x y == some .eq) = true
        · have d2 := HM.out.2 c2
          cases sm
          · go_wp2
            go_meet
            exact ⟨rfl, _, rfl⟩
          · go_wp2
            go_meet
            exact ⟨rfl, _, rfl⟩
        · rw [Bool.not_eq_true] at c2
          cases sm
          · go_wp2
            go_meet
            exact ⟨rfl, _, rfl⟩
          · go_wp2
            go_meet
            exact ⟨rfl, _, rfl⟩
  case rest =>
    obtain ⟨rfl, k, rfl⟩ := hcut
    clear hsm
    go_wp2_with fail
    refine (rbits32 (narF x) _ (narF_lt x HX.out).1).mono ?_
    rintro e w2 ⟨rfl, rfl⟩
    rcases near_split x HX.out with h255 | ⟨s, r, hxr, hr, hg, hf, hc⟩
    · go_wp2
      go_ret
      exact ⟨rfl, below_drewN HB.out _⟩
    · obtain ⟨g, hgg⟩ : ∃ g, g = ngr r := ⟨_, rfl⟩
      rw [← hgg] at hf hc hg
      rw [hc, hf]
      obtain ⟨N, hN⟩ : ∃ N : Int, ((Ieee.single.word s g : Nat) : Int) = N := ⟨_, rfl⟩
      rw [hN]
      obtain ⟨hn1, hn2, hn3⟩ := sw_lt s g hg
      rw [hN] at hn1 hn2 hn3
      have HD : Hid (N * 2 % 4294967296 = 2 * (g : Int)) := hn1
      have hsh : (N * 2 % 4294967296 / 16777216 == 255) = false := by rw [beq_eq_false_iff_ne, hn1]; omega
      have HHN : Hid (((Ieee.single.word s g : Nat) : Int) = N) := hN
      have HGG : Hid (g = ngr r ∧ r < 9218868437227405312 ∧ g < 2139095040 ∧ x = Ieee.double.word s r ∧ narF x = Ieee.single.word s g) := ⟨hgg, hr, hg, hxr, hf⟩
      clear hgg hr hg hxr hf hc hN hn1
      have HNB : Hid (Ieee.single.word s g < 4294967296) := (nan32_word s g (by have := HGG.out.2.2.1; omega)).2
      go_wp2_with fail
      go_loopw [14] (fun i wr => ∃ j : Nat, i = .int .i64 j ∧ j ≤ 2 ∧ Hid (wr.cell? ⟨w1.heap.size, 0, none⟩ = some (.int .u32 ((N + 1) % 4294967296)) ∧ wr.cell? ⟨w1.heap.size, 1, none⟩ = some (.int .u32 ((N - 1) % 4294967296))) ∧ Hid (Below w.heap.size w wr)) (fun i _ => 10 - (intOf i).toNat)
      case atStart =>
        refine ⟨0, rfl, by omega, ⟨?_, ?_⟩, (below_drewN HB.out _).alloc HB.out.size _⟩
        · exact World.cell?_alloc_new (w1.drewN k) _ _ 0
        · exact World.cell?_alloc_new (w1.drewN k) _ _ 1
      case round =>
        obtain ⟨j, rfl, hj, HCE, HBW⟩ := hrel
        rcases (by omega : j = 0 ∨ j = 1 ∨ j = 2) with rfl | rfl | rfl
        · obtain ⟨h, xf, xh, pw, qw, pa, qa, bp, bq, be, hh, hc1, hc2, hs1, hs2, hp0, hq0, hpa, hqa, hlt, heq, hodd, H14⟩ := nb_round s r g (g + 1) x N HHN.out HGG.out (.inl rfl)
          have hcell : wr.cell? ⟨w1.heap.size, 0, none⟩ = some (.int .u32 (h : Int)) := by
            rw [HCE.out.1, ← hh, ← HHN.out, (nb_bits s g HGG.out.2.2.1).1]
          have H14 : Hid _ := H14
          clear hh
          obtain ⟨d0, hd0⟩ : ∃ d0, (N * 2 % 4294967296 == 0) = d0 := ⟨_, rfl⟩
          cases d0 <;> cases bp <;> cases bq <;> cases be <;>
            (simp only [Bool.false_eq_true, if_false, if_true, true_implies, false_implies] at hpa hqa hodd
             subst hpa
             subst hqa
             go_wp2_with (go_at_call 14; refine (H14.out _).mono ?_; rintro e w3 ⟨rfl, rfl⟩)
             go_roundw
             case rel => exact ⟨1, rfl, by omega, HCE.out, HBW.out⟩
             case measure => simp [intOf])
        · by_cases hg0 : g = 0
          · obtain ⟨m, hm1, hm2, hm3, hm4⟩ := (nb_bits s g HGG.out.2.2.1).2.2.1 hg0
            have hcell : wr.cell? ⟨w1.heap.size, 1, none⟩ = some (.int .u32 (m : Int)) := by
              rw [HCE.out.2, ← HHN.out, hm1]
            have H14 : Hid (∀ w, Calls Tryd.prog 14 #[.int .u32 m] w fun e w' => e = .returned (.tuple #[.float .f32 0, .int .i64 10]) ∧ w' = w) := fun w => rfrom32_bad m w hm2 hm3 hm4
            clear hm1 hm2 hm3 hm4 hg0
            go_wp2_with (go_at_call 14; refine (H14.out _).mono ?_; rintro e w3 ⟨rfl, rfl⟩)
            go_roundw
            case rel => exact ⟨2, rfl, by omega, HCE.out, HBW.out⟩
            case measure => simp [intOf]
          · obtain ⟨h, xf, xh, pw, qw, pa, qa, bp, bq, be, hh, hc1, hc2, hs1, hs2, hp0, hq0, hpa, hqa, hlt, heq, hodd, H14⟩ := nb_round s r g (g - 1) x N HHN.out HGG.out (.inr (by omega))
            have hcell : wr.cell? ⟨w1.heap.size, 1, none⟩ = some (.int .u32 (h : Int)) := by
              rw [HCE.out.2, ← hh, ← HHN.out, (nb_bits s g HGG.out.2.2.1).2.1 (by omega)]
            have H14 : Hid _ := H14
            have hd0 : (N * 2 % 4294967296 == 0) = false := by rw [beq_eq_false_iff_ne, HD.out]; omega
            clear hh hg0
            cases bp <;> cases bq <;> cases be <;>
              (simp only [Bool.false_eq_true, if_false, if_true, true_implies, false_implies] at hpa hqa hodd
               subst hpa
               subst hqa
               go_wp2_with (go_at_call 14; refine (H14.out _).mono ?_; rintro e w3 ⟨rfl, rfl⟩)
               go_roundw
               case rel => exact ⟨2, rfl, by omega, HCE.out, HBW.out⟩
               case measure => simp [intOf])
        · go_wp2
          go_ret
          exact ⟨rfl, HBW.out⟩
end Go.Proofs.YtbbikogpfpghbaaDoor
