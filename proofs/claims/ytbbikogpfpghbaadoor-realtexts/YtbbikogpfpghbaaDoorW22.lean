/- Parse32, at every text. -/
import Derived.Test.YtbbikogpfpghbaaDoorW21
namespace Go.Proofs.YtbbikogpfpghbaaDoor
open Go.RowKit

theorem ansF_none (k : FloatKind) : ansF k none = .tuple #[.float k 0, .int .i64 11] := rfl
theorem ansF_some (k : FloatKind) (b : Nat) : ansF k (some b) = .tuple #[.float k b, .int .i64 0] := rfl

set_option maxHeartbeats 400000 in
theorem p32_none (s : ByteArray) (w : World) (hp : Calls Tryd.prog 34 #[.string s] w fun r w' => r = .returned (ansF .f64 none) ∧ ∃ n, w' = w.drewN n) :
    Calls Tryd.prog 35 #[.string s] w fun r w' => r = .returned (ansF .f32 none) ∧ ∃ n, w' = w.drewN n := by
  have HP : Hid (Calls Tryd.prog 34 #[.string s] w fun r w' => r = .returned (ansF .f64 none) ∧ ∃ n, w' = w.drewN n) := hp
  clear hp
  go_enter Tryd.func35, Tryd.ntmps35
  go_wp2_with fail
  refine HP.out.mono ?_
  rintro r w1 ⟨rfl, n, rfl⟩
  rw [ansF_none]
  go_wp2
  go_ret2
  exact ⟨rfl, n, rfl⟩

set_option maxHeartbeats 400000 in
theorem p32_some (s : ByteArray) (z : Nat) (w : World) (hz : z < 18446744073709551616) (hp : Calls Tryd.prog 34 #[.string s] w fun r w' => r = .returned (ansF .f64 (some z)) ∧ ∃ n, w' = w.drewN n) :
    Calls Tryd.prog 35 #[.string s] w fun r w' => ∃ o n, r = .returned (ansF .f32 o) ∧ w' = w.drewN n ∧ (∀ g, o = some g → g < 4294967296 ∧ c64 (wid g) = c64 z) ∧ (∀ u, u < 4294967296 → nan32 u = false → wid u = z → o = some u) ∧ (nan64 z = true → o = some 2143289344) := by
  have HP : Hid (Calls Tryd.prog 34 #[.string s] w fun r w' => r = .returned (ansF .f64 (some z)) ∧ ∃ n, w' = w.drewN n) := hp
  have HZ : Hid (z < 18446744073709551616) := hz
  clear hp hz
  go_enter Tryd.func35, Tryd.ntmps35
  go_wp2_with fail
  refine HP.out.mono ?_
  rintro r w1 ⟨rfl, n, rfl⟩
  rw [ansF_some]
  go_wp2_with fail
  refine (narrow_any z _ HZ.out).mono ?_
  rintro r w1 ⟨g, k, hg, hu, hna, rfl, rfl⟩
  have HG : Hid (g < 4294967296 ∧ (∀ u, u < 4294967296 → nan32 u = false → wid u = z → g = u) ∧ (nan64 z = true → g = 2143289344)) := ⟨hg, hu, hna⟩
  clear hg hu hna
  cases hs : ((c64 (wid g) : Int) == (c64 z : Int)) with
  | true =>
    have HS : Hid (c64 (wid g) = c64 z) := by
      have := beq_iff_eq.1 hs
      exact Int.natCast_inj.1 this
    clear hs
    go_wp2
    go_ret2
    refine ⟨some g, n + k, rfl, rfl, ?_, ?_, ?_⟩
    · intro g' hg'; cases hg'; exact ⟨HG.out.1, HS.out⟩
    · intro u h1 h2 h3; rw [HG.out.2.1 u h1 h2 h3]
    · intro h1; rw [HG.out.2.2 h1]
  | false =>
    have HS : Hid (c64 (wid g) ≠ c64 z) := by
      have := beq_eq_false_iff_ne.1 hs
      exact fun e => this (by rw [e])
    clear hs
    go_wp2
    go_ret2
    refine ⟨none, n + k, rfl, rfl, ?_, ?_, ?_⟩
    · intro g' hg'; cases hg'
    · intro u h1 h2 h3
      exfalso
      apply HS.out
      rw [HG.out.2.1 u h1 h2 h3, h3]
    · intro h1
      exfalso
      apply HS.out
      rw [HG.out.2.2 h1, c64_nan z h1]
      rfl

/-- Parse32, at every text. -/
theorem parse32_any (s : ByteArray) (w : World) (hsz : s.size ≤ 2147483647) (hR : Rd w) :
    Calls Tryd.prog 35 #[.string s] w fun r w' => ∃ o n, r = .returned (ansF .f32 o) ∧ w' = w.drewN n ∧ (∀ g, o = some g → g < 4294967296 ∧ ∃ z, parseL s.data.toList = some z ∧ c64 (wid g) = z) ∧ (∀ u, u < 4294967296 → parseL s.data.toList = some (c64 (wid u)) → ∃ g, o = some g ∧ c32 g = c32 u) := by
  have hp := parse64_any s w hsz hR
  cases hz : parseL s.data.toList with
  | none =>
    rw [hz] at hp
    refine (p32_none s w hp).mono ?_
    rintro r w' ⟨h1, n, h2⟩
    refine ⟨none, n, h1, h2, ?_, ?_⟩
    · intro g hg; cases hg
    · intro u _ hu; cases hu
  | some z =>
    rw [hz] at hp
    obtain ⟨h1, h2, h3⟩ := text_forth _ _ hz
    refine (p32_some s z w h2 hp).mono ?_
    rintro r w' ⟨o, n, a1, a2, a3, a4, a5⟩
    refine ⟨o, n, a1, a2, fun g hg => ?_, fun u hu e => ?_⟩
    · obtain ⟨b1, b2⟩ := a3 g hg
      exact ⟨b1, z, rfl, by rw [b2, h3]⟩
    · have e := Option.some.inj e
      cases hx : nan32 u with
      | false =>
        have hw := (wid_conv u hu hx).2.2
        rw [c64_num _ hw] at e
        exact ⟨u, a4 u hu hx e.symm, rfl⟩
      | true =>
        have hw : wid u = 9221120237041090560 := by unfold wid; rw [hx]; rfl
        rw [hw] at e
        refine ⟨2143289344, a5 (by rw [e]; decide), ?_⟩
        rw [c32_nan u hx]
        rfl

/-! What the statement on the ways back leans on. -/
theorem c64_idem (x : Nat) : c64 (c64 x) = c64 x := by
  cases hx : nan64 x with
  | true => rw [c64_nan x hx]; decide
  | false => rw [c64_num x hx, c64_num x hx]
theorem c64_lt (x : Nat) (h : x < 18446744073709551616) : c64 x < 18446744073709551616 := by
  cases hx : nan64 x with
  | true => rw [c64_nan x hx]; omega
  | false => rw [c64_num x hx]; exact h
theorem text_c64 (x : Nat) : textL (c64 x) = textL x := by
  cases hx : nan64 x with
  | true => rw [c64_nan x hx, textL_nan x hx, textL_nan _ (by decide)]
  | false => rw [c64_num x hx]
theorem text_same (x y : Nat) (hx : x < 18446744073709551616) (hy : y < 18446744073709551616) : textL x = textL y ↔ c64 x = c64 y := by
  constructor
  · intro h
    have h1 := text_back x hx
    rw [h, text_back y hy] at h1
    exact (Option.some.inj h1).symm
  · intro h
    rw [← text_c64 x, h, text_c64]

theorem wid_lt (u : Nat) (h : u < 4294967296) : wid u < 18446744073709551616 := by
  cases hx : nan32 u with
  | true => unfold wid; rw [hx, if_pos rfl]; omega
  | false => exact (wid_conv u h hx).2.1

theorem narrow_of_wid (u : Nat) (w : World) (h : u < 4294967296) :
    Calls Tryd.prog 25 #[.float .f64 (c64 (wid u))] w fun e w' => ∃ g k, g < 4294967296 ∧ c32 g = c32 u ∧ e = .returned (.tuple #[.float .f32 g, .bool true]) ∧ w' = w.drewN k := by
  refine (narrow_any (c64 (wid u)) w (c64_lt _ (wid_lt u h))).mono ?_
  rintro e w' ⟨g, k, hg, h1, h2, rfl, rfl⟩
  cases hx : nan32 u with
  | true =>
    have hw : wid u = 9221120237041090560 := by unfold wid; rw [hx]; rfl
    rw [hw] at h2 ⊢
    have e := h2 (by decide)
    subst e
    exact ⟨_, k, by omega, by rw [c32_nan u hx]; rfl, rfl, rfl⟩
  | false =>
    have hw := (wid_conv u h hx).2.2
    rw [c64_num _ hw] at h1 ⊢
    obtain rfl := h1 u h hx rfl
    refine ⟨g, k, h, rfl, ?_, rfl⟩
    rw [beq_self_eq_true]

set_option maxHeartbeats 400000 in
theorem add_big (n : Int) (w : World) (h1 : n ≤ 9223372036854775807) (h : 2147482647 < n) :
    Calls Tryd.prog 27 #[.int .i64 n, .int .i64 1000] w fun e w' => e = .returned (.int .i64 2147483648) ∧ w' = w := by
  have h' : 2147483647 - n < 1000 := by omega
  go_enter Tryd.func27, Tryd.ntmps27
  go_wp2
  go_ret
  exact ⟨rfl, rfl⟩
set_option maxHeartbeats 400000 in
theorem add_small (n : Int) (w : World) (h0 : 0 ≤ n) (h : n ≤ 2147482647) :
    Calls Tryd.prog 27 #[.int .i64 n, .int .i64 1000] w fun e w' => e = .returned (.int .i64 (n + 1000)) ∧ w' = w := by
  have h' : 1000 ≤ 2147483647 - n := by omega
  go_enter Tryd.func27, Tryd.ntmps27
  go_wp2
  go_ret
  exact ⟨rfl, rfl⟩

theorem dbl_big (n : Nat) (hn : nan64 n = true) : decide (IntKind.u64.wrap ((n : Int) * 2) ≤ 18437736874454810624) = false := by
  unfold nan64 at hn
  rw [decide_eq_true_eq] at hn
  rw [decide_eq_false_iff_not, IntKind.wrap_u64]
  omega
theorem dbl_big32 (n : Nat) (hn : nan32 n = true) : decide ((n : Int) * 2 % 4294967296 ≤ 4278190080) = false := by
  unfold nan32 at hn
  rw [decide_eq_true_eq] at hn
  rw [decide_eq_false_iff_not]
  omega

end Go.Proofs.YtbbikogpfpghbaaDoor
