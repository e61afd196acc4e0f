/- The statement on the ways back: whatever the input, its walk answers true, and nothing that was there has turned. -/
import Derived.Test.YtbbikogpfpghbaaDoorW22
import Derived.Test.YtbbikogpfpghbaaDoorW16
namespace Go.Proofs.YtbbikogpfpghbaaDoor
open Go.RowKit

set_option maxRecDepth 4000 in
set_option maxHeartbeats 400000 in
theorem realBack_long (a b c : Int) (s : ByteArray) (w : World) (hs : s.size ≤ 9223372036854775807) (h : 2147482647 < (s.size : Int)) :
    Calls Tryd.prog 7 #[.int .i64 a, .int .i64 b, .int .i64 c, .string s] w fun e w' => e = .returned (.bool true) ∧ Below w.heap.size w w' := by
  have HA : Hid (∀ w, Calls Tryd.prog 27 #[.int .i64 (s.size : Int), .int .i64 1000] w fun e w' => e = .returned (.int .i64 2147483648) ∧ w' = w) := fun w => add_big _ w (by omega) h
  clear hs h
  go_enter Tryd.func7, Tryd.ntmps7
  go_wp2_with (go_at_call 27; refine (HA.out _).mono ?_; rintro e w' ⟨rfl, rfl⟩)
  go_ret
  exact ⟨rfl, Below.refl _ _⟩

/-- From64, and what the statement asks of it. -/
theorem back64 (n : Nat) (h : n < 18446744073709551616) : ((∀ w, Calls Tryd.prog 12 #[.int .u64 n] w fun r w' => r = .returned (.tuple #[.float .f64 n, .int .i64 0]) ∧ w' = w) ∧ (∀ w, Calls Tryd.prog 18 #[.float .f64 n] w fun r w' => r = .returned (.int .u64 n) ∧ w' = w)) ∨
    ((∀ w, Calls Tryd.prog 12 #[.int .u64 n] w fun r w' => r = .returned (.tuple #[.float .f64 0, .int .i64 10]) ∧ w' = w) ∧ decide (IntKind.u64.wrap ((n : Int) * 2) ≤ 18437736874454810624) = false ∧ ((n : Int) == 9221120237041090560) = false) := by
  cases hn : nan64 n with
  | false => exact .inl ⟨fun w => rfrom64_ok n w h (.inl hn), fun w => by have := rbits64 n w h; rw [c64_num n hn] at this; exact this⟩
  | true =>
    by_cases hb : n = 9221120237041090560
    · subst hb; exact .inl ⟨fun w => rfrom64_ok _ w h (.inr rfl), fun w => rbits64 _ w h⟩
    · exact .inr ⟨fun w => rfrom64_bad n w h hn hb, dbl_big n hn, by rw [beq_eq_false_iff_ne]; intro e; exact hb (Int.natCast_inj.1 e)⟩
theorem back32 (n : Nat) (h : n < 4294967296) : ((∀ w, Calls Tryd.prog 14 #[.int .u32 n] w fun r w' => r = .returned (.tuple #[.float .f32 n, .int .i64 0]) ∧ w' = w) ∧ (∀ w, Calls Tryd.prog 19 #[.float .f32 n] w fun r w' => r = .returned (.int .u32 n) ∧ w' = w)) ∨
    ((∀ w, Calls Tryd.prog 14 #[.int .u32 n] w fun r w' => r = .returned (.tuple #[.float .f32 0, .int .i64 10]) ∧ w' = w) ∧ decide ((n : Int) * 2 % 4294967296 ≤ 4278190080) = false ∧ ((n : Int) == 2143289344) = false) := by
  cases hn : nan32 n with
  | false => exact .inl ⟨fun w => rfrom32_ok n w h (.inl hn), fun w => by have := rbits32 n w h; rw [c32_num n hn] at this; exact this⟩
  | true =>
    by_cases hb : n = 2143289344
    · subst hb; exact .inl ⟨fun w => rfrom32_ok _ w h (.inr rfl), fun w => rbits32 _ w h⟩
    · exact .inr ⟨fun w => rfrom32_bad n w h hn hb, dbl_big32 n hn, by rw [beq_eq_false_iff_ne]; intro e; exact hb (Int.natCast_inj.1 e)⟩

theorem b64_zero (w : World) : Calls Tryd.prog 18 #[.float .f64 0] w fun r w' => r = .returned (.int .u64 0) ∧ w' = w := rbits64 0 w (by omega)
theorem b32_zero (w : World) : Calls Tryd.prog 19 #[.float .f32 0] w fun r w' => r = .returned (.int .u32 0) ∧ w' = w := rbits32 0 w (by omega)

theorem textL_len (x : Nat) : (textL x).length ≤ 25 := by
  unfold textL
  cases hx : nan64 x with
  | true => simp
  | false =>
    have hle : x % 9223372036854775808 ≤ 9218868437227405312 := by
      unfold nan64 at hx; rw [decide_eq_false_iff_not] at hx; omega
    have := sizeT_len _ hle
    simp only [Bool.false_eq_true, if_false, List.length_append]
    split <;> simp only [List.length_cons, List.length_nil] <;> omega

theorem sizeB (l : List UInt8) : (⟨l.toArray⟩ : ByteArray).size = l.length := by
  show l.toArray.size = l.length
  simp
theorem textL_size (x : Nat) : (⟨(textL x).toArray⟩ : ByteArray).size ≤ 2147483647 := by
  rw [sizeB]; have := textL_len x; omega

theorem back_p64 (x : Nat) (w : World) (h : x < 18446744073709551616) (hR : Rd w) :
    Calls Tryd.prog 34 #[B (textL x)] w fun r w' => ∃ n, r = .returned (.tuple #[.float .f64 (c64 x), .int .i64 0]) ∧ w' = w.drewN n := by
  refine (parse64_any ⟨(textL x).toArray⟩ w (textL_size x) hR).mono ?_
  rintro r w' ⟨h1, n, h2⟩
  have e : parseL (⟨(textL x).toArray⟩ : ByteArray).data.toList = some (c64 x) := by
    show parseL (textL x).toArray.toList = _
    rw [List.toList_toArray]; exact text_back x h
  rw [e, ansF_some] at h1
  exact ⟨n, h1, h2⟩

theorem back_p32 (u : Nat) (w : World) (h : u < 4294967296) (hR : Rd w) :
    Calls Tryd.prog 35 #[B (textL (wid u))] w fun r w' => ∃ g n, g < 4294967296 ∧ c32 g = c32 u ∧ r = .returned (.tuple #[.float .f32 g, .int .i64 0]) ∧ w' = w.drewN n := by
  refine (parse32_any ⟨(textL (wid u)).toArray⟩ w (textL_size _) hR).mono ?_
  rintro r w' ⟨o, n, h1, h2, h3, h4⟩
  have e : parseL (⟨(textL (wid u)).toArray⟩ : ByteArray).data.toList = some (c64 (wid u)) := by
    show parseL (textL (wid u)).toArray.toList = _
    rw [List.toList_toArray]; exact text_back _ (wid_lt u h)
  obtain ⟨g, rfl, hg⟩ := h4 u h e
  exact ⟨g, n, (h3 g rfl).1, hg, h1, h2⟩

theorem same_c (x : Nat) (w : World) (h : x < 18446744073709551616) :
    Calls Tryd.prog 20 #[.float .f64 (c64 x), .float .f64 x] w fun r w' => r = .returned (.bool true) ∧ w' = w := by
  have := rsame64 (c64 x) x w (c64_lt x h) h
  rw [c64_idem] at this
  refine this.mono ?_
  rintro r w' ⟨rfl, rfl⟩
  exact ⟨by simp, rfl⟩
theorem same_g (g u : Nat) (w : World) (hg : g < 4294967296) (h : u < 4294967296) (e : c32 g = c32 u) :
    Calls Tryd.prog 22 #[.float .f32 g, .float .f32 u] w fun r w' => r = .returned (.bool true) ∧ w' = w := by
  have := rsame32 g u w hg h
  rw [e] at this
  refine this.mono ?_
  rintro r w' ⟨rfl, rfl⟩
  exact ⟨by simp, rfl⟩

/-- Two numbers: their texts, their bits, and one Bool for 'the same'. -/
theorem two_texts (x y : Nat) (hx : x < 18446744073709551616) (hy : y < 18446744073709551616) : ∃ (sx sy : ByteArray) (cx cy : Int) (b : Bool),
    Hid (∀ w, Rd w → Calls Tryd.prog 30 #[.float .f64 x] w fun e w' => e = .returned (.string sx) ∧ Below w.heap.size w w') ∧
    Hid (∀ w, Rd w → Calls Tryd.prog 30 #[.float .f64 y] w fun e w' => e = .returned (.string sy) ∧ Below w.heap.size w w') ∧
    Hid (∀ w, Calls Tryd.prog 18 #[.float .f64 x] w fun e w' => e = .returned (.int .u64 cx) ∧ w' = w) ∧
    Hid (∀ w, Calls Tryd.prog 18 #[.float .f64 y] w fun e w' => e = .returned (.int .u64 cy) ∧ w' = w) ∧
    Hid (∀ w, Calls Tryd.prog 20 #[.float .f64 x, .float .f64 y] w fun e w' => e = .returned (.bool b) ∧ w' = w) ∧
    (cx == cy) = b ∧ (sx.toList == sy.toList) = b := by
  refine ⟨_, _, _, _, _, fun w h => print64_any x w hx h, fun w h => print64_any y w hy h, fun w => rbits64 x w hx, fun w => rbits64 y w hy, fun w => rsame64 x y w hx hy, rfl, ?_⟩
  have h := text_same x y hx hy
  rw [Lib.toList_data, Lib.toList_data]
  show ((textL x).toArray.toList == (textL y).toArray.toList) = _
  rw [List.toList_toArray, List.toList_toArray, Bool.eq_iff_iff, beq_iff_eq, beq_iff_eq, h]
  exact Int.natCast_inj.symm

theorem str_of (s : ByteArray) : B s.data.toList = .string s := rfl

/-- The last two readings. -/
theorem last_both (s : ByteArray) (hsz : s.size ≤ 2147483647) :
    (Hid (∀ w, Rd w → Calls Tryd.prog 34 #[.string s] w fun r w' => ∃ n, r = .returned (.tuple #[.float .f64 0, .int .i64 11]) ∧ w' = w.drewN n) ∧
     Hid (∀ w, Rd w → Calls Tryd.prog 35 #[.string s] w fun r w' => ∃ n, r = .returned (.tuple #[.float .f32 0, .int .i64 11]) ∧ w' = w.drewN n)) ∨
    (∃ z, Hid (∀ w, Rd w → Calls Tryd.prog 34 #[.string s] w fun r w' => ∃ n, r = .returned (.tuple #[.float .f64 z, .int .i64 0]) ∧ w' = w.drewN n) ∧
     Hid (∀ w, Rd w → Calls Tryd.prog 30 #[.float .f64 z] w fun e w' => e = .returned (.string s) ∧ Below w.heap.size w w') ∧
     Hid (∀ w, Rd w → Calls Tryd.prog 35 #[.string s] w fun r w' => ∃ n, w' = w.drewN n ∧ (r = .returned (.tuple #[.float .f32 0, .int .i64 11]) ∨ ∃ g, r = .returned (.tuple #[.float .f32 g, .int .i64 0]) ∧
       Hid (∀ w, Rd w → Calls Tryd.prog 31 #[.float .f32 g] w fun e w' => e = .returned (.string s) ∧ Below w.heap.size w w')))) := by
  have h64 := fun w (hR : Rd w) => parse64_any s w hsz hR
  have h32 := fun w (hR : Rd w) => parse32_any s w hsz hR
  cases hz : parseL s.data.toList with
  | none =>
    rw [hz] at h64
    refine .inl ⟨fun w hR => (h64 w hR).mono ?_, fun w hR => (h32 w hR).mono ?_⟩
    · rintro r w' ⟨h1, n, h2⟩; exact ⟨n, h1, h2⟩
    · rintro r w' ⟨o, n, h1, h2, h3, _⟩
      cases o with
      | none => exact ⟨n, h1, h2⟩
      | some g => obtain ⟨_, z, h5, _⟩ := h3 g rfl; rw [hz] at h5; cases h5
  | some z =>
    rw [hz] at h64
    have hf := text_forth _ _ hz
    refine .inr ⟨z, fun w hR => (h64 w hR).mono ?_, fun w hR => ?_, fun w hR => (h32 w hR).mono ?_⟩
    · rintro r w' ⟨h1, n, h2⟩; exact ⟨n, h1, h2⟩
    · have := print64_any z w hf.2.1 hR
      rw [hf.1] at this; exact this
    · rintro r w' ⟨o, n, h1, h2, h3, _⟩
      refine ⟨n, h2, ?_⟩
      cases o with
      | none => exact .inl h1
      | some g =>
        obtain ⟨hg, z', h5, h6⟩ := h3 g rfl
        rw [hz] at h5
        cases h5
        refine .inr ⟨g, h1, fun w hR => ?_⟩
        have := print32_any g w hg hR
        rw [← text_c64, h6, hf.1] at this
        exact this

set_option maxRecDepth 4000 in
set_option maxHeartbeats 20000000 in
theorem realBack_walk (a b c : Int) (s : ByteArray) (w : World) (h : (s.size : Int) ≤ 2147482647) (hR : Rd w) :
    Calls Tryd.prog 7 #[.int .i64 a, .int .i64 b, .int .i64 c, .string s] w fun e w' => e = .returned (.bool true) ∧ Below w.heap.size w w' := by
  obtain ⟨na, ha, hna⟩ := wrapU64 a
  obtain ⟨nb, hb, hnb⟩ := wrapU64 b
  obtain ⟨nc, hc, hnc⟩ := wrapU32 c
  have HA : Hid (∀ w, Calls Tryd.prog 27 #[.int .i64 (s.size : Int), .int .i64 1000] w fun e w' => e = .returned (.int .i64 ((s.size : Int) + 1000)) ∧ w' = w) := fun w => add_small _ w (by omega) h
  have HWA : Hid (∀ w, Calls Tryd.prog 10 #[.int .i64 a] w fun e w' => ∃ x k, x < 18446744073709551616 ∧ e = .returned (.float .f64 x) ∧ w' = w.drewN k) := fun w => (wide_any a na w ha hna).mono fun e w' ⟨x, k, h1, _, _, h4, h5⟩ => ⟨x, k, h1, h4, h5⟩
  have HWB : Hid (∀ w, Calls Tryd.prog 10 #[.int .i64 b] w fun e w' => ∃ x k, x < 18446744073709551616 ∧ e = .returned (.float .f64 x) ∧ w' = w.drewN k) := fun w => (wide_any b nb w hb hnb).mono fun e w' ⟨x, k, h1, _, _, h4, h5⟩ => ⟨x, k, h1, h4, h5⟩
  have HSC : Hid (∀ w, Calls Tryd.prog 11 #[.int .i64 c] w fun e w' => ∃ x k, x < 4294967296 ∧ e = .returned (.float .f32 x) ∧ w' = w.drewN k) := fun w => (slim_any c nc w hc hnc).mono fun e w' ⟨x, k, h1, _, _, h4, h5⟩ => ⟨x, k, h1, h4, h5⟩
  have HR : Hid (Rd w) := hR
  have HSZ : Hid (s.size ≤ 2147483647) := by show s.size ≤ 2147483647; omega
  have hgd : decide (2147483647 < (s.size : Int) + 1000) = false := by rw [decide_eq_false_iff_not]; omega
  have h64 := back64 na hna
  have h32 := back32 nc hnc
  rw [IntKind.wrap_u32'] at hc
  clear hb hna hnb hnc hR h
  rcases h64 with ⟨r64, q64⟩ | ⟨r64, d64, n64⟩
  · have HR64 : Hid (∀ w, Calls Tryd.prog 12 #[.int .u64 na] w fun r w' => r = .returned (.tuple #[.float .f64 na, .int .i64 0]) ∧ w' = w) := r64
    have HQ64 : Hid (∀ w, Calls Tryd.prog 18 #[.float .f64 na] w fun r w' => r = .returned (.int .u64 na) ∧ w' = w) := q64
    clear r64 q64
    rcases h32 with ⟨r32, q32⟩ | ⟨r32, d32, n32⟩
    · have HR32 : Hid (∀ w, Calls Tryd.prog 14 #[.int .u32 nc] w fun r w' => r = .returned (.tuple #[.float .f32 nc, .int .i64 0]) ∧ w' = w) := r32
      have HQ32 : Hid (∀ w, Calls Tryd.prog 19 #[.float .f32 nc] w fun r w' => r = .returned (.int .u32 nc) ∧ w' = w) := q32
      clear r32 q32
      go_enter Tryd.func7, Tryd.ntmps7
      go_wp2_with fail
      refine (HA.out _).mono ?_
      rintro e w1 ⟨rfl, rfl⟩
      go_wp2_with fail
      refine (awake_any _ HR.out).mono ?_
      rintro e w2 ⟨rfl, hB⟩
      have HB : Hid (Below _ _ w2) := hB
      have HR2 : Hid (Rd w2) := HR.out.below hB
      clear hB
      go_wp2_with fail
      refine (HR64.out _).mono ?_
      rintro e w3 ⟨rfl, rfl⟩
      go_wp2_with fail
      refine (HQ64.out _).mono ?_
      rintro e w3 ⟨rfl, rfl⟩
      go_wp2_with fail
      refine (HR32.out _).mono ?_
      rintro e w3 ⟨rfl, rfl⟩
      go_wp2_with fail
      refine (HQ32.out _).mono ?_
      rintro e w3 ⟨rfl, rfl⟩
      go_wp2_with fail
      refine (HWA.out _).mono ?_
      rintro e w3 ⟨x, k1, hx, rfl, rfl⟩
      have HX : Hid (x < 18446744073709551616) := hx
      clear hx
      go_wp2_with fail
      refine (HWB.out _).mono ?_
      rintro e w3 ⟨y, k2, hy, rfl, rfl⟩
      have HY : Hid (y < 18446744073709551616) := hy
      clear hy
      go_wp2_with fail
      refine (print64_any x _ HX.out (rd_drewN HR2.out _)).mono ?_
      rintro e w3 ⟨rfl, hB⟩
      have HB3 : Hid (Below _ _ w3) := (below_drewN HB.out (k1 + k2)).trans (hB.mono HB.out.size)
      have HR3 : Hid (Rd w3) := (rd_drewN HR2.out _).below hB
      clear hB HB HR2
      go_wp2_with fail
      refine (back_p64 x _ HX.out HR3.out).mono ?_
      rintro e w4 ⟨k3, rfl, rfl⟩
      go_wp2_with fail
      refine (HSC.out _).mono ?_
      rintro e w4 ⟨u, k4, hu, rfl, rfl⟩
      have HU : Hid (u < 4294967296) := hu
      clear hu
      go_wp2_with fail
      refine (print32_any u _ HU.out (rd_drewN HR3.out _)).mono ?_
      rintro e w4 ⟨rfl, hB⟩
      have HB4 : Hid (Below _ _ w4) := (below_drewN HB3.out (k3 + k4)).trans (hB.mono HB3.out.size)
      have HR4 : Hid (Rd w4) := (rd_drewN HR3.out _).below hB
      clear hB HB3 HR3
      go_wp2_with fail
      refine (back_p32 u _ HU.out HR4.out).mono ?_
      rintro e w5 ⟨g1, k5, hg1, hq1, rfl, rfl⟩
      have HG1 : Hid (g1 < 4294967296 ∧ c32 g1 = c32 u) := ⟨hg1, hq1⟩
      clear hg1 hq1
      go_wp2_with fail
      refine (print32_any u _ HU.out (rd_drewN HR4.out _)).mono ?_
      rintro e w5 ⟨rfl, hB⟩
      have HB5 : Hid (Below _ _ w5) := (below_drewN HB4.out k5).trans (hB.mono HB4.out.size)
      have HR5 : Hid (Rd w5) := (rd_drewN HR4.out _).below hB
      clear hB HB4 HR4
      go_wp2_with fail
      refine (back_p64 (wid u) _ (wid_lt u HU.out) HR5.out).mono ?_
      rintro e w6 ⟨k6, rfl, rfl⟩
      go_wp2_with fail
      refine (narrow_of_wid u _ HU.out).mono ?_
      rintro e w6 ⟨g2, k7, hg1, hq1, rfl, rfl⟩
      have HG2 : Hid (g2 < 4294967296 ∧ c32 g2 = c32 u) := ⟨hg1, hq1⟩
      clear hg1 hq1
      go_wp2_with fail
      refine (same_c x _ HX.out).mono ?_
      rintro e w6 ⟨rfl, rfl⟩
      go_wp2_with fail
      refine (same_g g1 u _ HG1.out.1 HU.out HG1.out.2).mono ?_
      rintro e w6 ⟨rfl, rfl⟩
      go_wp2_with fail
      refine (same_g g2 u _ HG2.out.1 HU.out HG2.out.2).mono ?_
      rintro e w6 ⟨rfl, rfl⟩
      go_wp2_with fail
      obtain ⟨sx, sy, cx, cy, bx, HSX, HSY, HCX, HCY, HSM, hbc, hbt⟩ := two_texts x y HX.out HY.out
      have hbb : (bx != bx) = false := by cases bx <;> rfl
      refine (HSX.out _ (rd_drewN HR5.out _)).mono ?_
      rintro e w6 ⟨rfl, hB⟩
      have HB6 : Hid (Below _ _ w6) := (below_drewN HB5.out (k6 + k7)).trans (hB.mono HB5.out.size)
      have HR6 : Hid (Rd w6) := (rd_drewN HR5.out _).below hB
      clear hB HB5 HR5
      go_wp2_with fail
      refine (HSY.out _ HR6.out).mono ?_
      rintro e w7 ⟨rfl, hB⟩
      have HB7 : Hid (Below _ _ w7) := HB6.out.trans (hB.mono HB6.out.size)
      have HR7 : Hid (Rd w7) := HR6.out.below hB
      clear hB HB6 HR6
      go_wp2_with fail
      refine (HSM.out _).mono ?_
      rintro e w8 ⟨rfl, rfl⟩
      go_wp2_with fail
      refine (HSM.out _).mono ?_
      rintro e w8 ⟨rfl, rfl⟩
      go_wp2_with fail
      refine (HCX.out _).mono ?_
      rintro e w8 ⟨rfl, rfl⟩
      go_wp2_with fail
      refine (HCY.out _).mono ?_
      rintro e w8 ⟨rfl, rfl⟩
      have hss : (s.toList != s.toList) = false := by simp
      have hlast := last_both s HSZ.out
      rcases hlast with ⟨HP, HQ⟩ | ⟨z, HP, HPZ, HQ⟩
      · go_wp2_with fail
        refine (HP.out _ HR7.out).mono ?_
        rintro e w8 ⟨k8, rfl, rfl⟩
        go_wp2_with fail
        refine (HQ.out _ (rd_drewN HR7.out _)).mono ?_
        rintro e w8 ⟨k9, rfl, rfl⟩
        go_wp2_with fail
        refine (b64_zero _).mono ?_
        rintro e w8 ⟨rfl, rfl⟩
        go_wp2_with fail
        refine (b32_zero _).mono ?_
        rintro e w8 ⟨rfl, rfl⟩
        go_wp2
        go_ret
        exact ⟨rfl, below_drewN HB7.out _⟩
      · go_wp2_with fail
        refine (HP.out _ HR7.out).mono ?_
        rintro e w8 ⟨k8, rfl, rfl⟩
        go_wp2_with fail
        refine (HQ.out _ (rd_drewN HR7.out _)).mono ?_
        rintro e w8 ⟨k9, rfl, rfl | ⟨g, rfl, HG⟩⟩
        · go_wp2_with fail
          refine (HPZ.out _ (rd_drewN HR7.out _)).mono ?_
          rintro e w8 ⟨rfl, hB⟩
          have HB8 : Hid (Below _ _ w8) := (below_drewN HB7.out (k8 + k9)).trans (hB.mono HB7.out.size)
          clear hB
          go_wp2_with fail
          refine (b32_zero _).mono ?_
          rintro e w8 ⟨rfl, rfl⟩
          go_wp2
          go_ret
          exact ⟨rfl, HB8.out⟩
        · go_wp2_with fail
          refine (HPZ.out _ (rd_drewN HR7.out _)).mono ?_
          rintro e w8 ⟨rfl, hB⟩
          have HB8 : Hid (Below _ _ w8) := (below_drewN HB7.out (k8 + k9)).trans (hB.mono HB7.out.size)
          have HR8 : Hid (Rd w8) := (rd_drewN HR7.out _).below hB
          clear hB
          go_wp2_with fail
          refine (HG.out _ HR8.out).mono ?_
          rintro e w9 ⟨rfl, hB⟩
          have HB9 : Hid (Below _ _ w9) := HB8.out.trans (hB.mono HB8.out.size)
          clear hB
          go_wp2
          go_ret
          exact ⟨rfl, HB9.out⟩
    · have HR32 : Hid (∀ w, Calls Tryd.prog 14 #[.int .u32 nc] w fun r w' => r = .returned (.tuple #[.float .f32 0, .int .i64 10]) ∧ w' = w) := r32
      clear r32
      go_enter Tryd.func7, Tryd.ntmps7
      go_wp2_with fail
      refine (HA.out _).mono ?_
      rintro e w1 ⟨rfl, rfl⟩
      go_wp2_with fail
      refine (awake_any _ HR.out).mono ?_
      rintro e w2 ⟨rfl, hB⟩
      have HB : Hid (Below _ _ w2) := hB
      have HR2 : Hid (Rd w2) := HR.out.below hB
      clear hB
      go_wp2_with fail
      refine (HR64.out _).mono ?_
      rintro e w3 ⟨rfl, rfl⟩
      go_wp2_with fail
      refine (HQ64.out _).mono ?_
      rintro e w3 ⟨rfl, rfl⟩
      go_wp2_with fail
      refine (HR32.out _).mono ?_
      rintro e w3 ⟨rfl, rfl⟩
      go_wp2_with fail
      refine (b32_zero _).mono ?_
      rintro e w3 ⟨rfl, rfl⟩
      go_wp2_with fail
      refine (HWA.out _).mono ?_
      rintro e w3 ⟨x, k1, hx, rfl, rfl⟩
      have HX : Hid (x < 18446744073709551616) := hx
      clear hx
      go_wp2_with fail
      refine (HWB.out _).mono ?_
      rintro e w3 ⟨y, k2, hy, rfl, rfl⟩
      have HY : Hid (y < 18446744073709551616) := hy
      clear hy
      go_wp2_with fail
      refine (print64_any x _ HX.out (rd_drewN HR2.out _)).mono ?_
      rintro e w3 ⟨rfl, hB⟩
      have HB3 : Hid (Below _ _ w3) := (below_drewN HB.out (k1 + k2)).trans (hB.mono HB.out.size)
      have HR3 : Hid (Rd w3) := (rd_drewN HR2.out _).below hB
      clear hB HB HR2
      go_wp2_with fail
      refine (back_p64 x _ HX.out HR3.out).mono ?_
      rintro e w4 ⟨k3, rfl, rfl⟩
      go_wp2_with fail
      refine (HSC.out _).mono ?_
      rintro e w4 ⟨u, k4, hu, rfl, rfl⟩
      have HU : Hid (u < 4294967296) := hu
      clear hu
      go_wp2_with fail
      refine (print32_any u _ HU.out (rd_drewN HR3.out _)).mono ?_
      rintro e w4 ⟨rfl, hB⟩
      have HB4 : Hid (Below _ _ w4) := (below_drewN HB3.out (k3 + k4)).trans (hB.mono HB3.out.size)
      have HR4 : Hid (Rd w4) := (rd_drewN HR3.out _).below hB
      clear hB HB3 HR3
      go_wp2_with fail
      refine (back_p32 u _ HU.out HR4.out).mono ?_
      rintro e w5 ⟨g1, k5, hg1, hq1, rfl, rfl⟩
      have HG1 : Hid (g1 < 4294967296 ∧ c32 g1 = c32 u) := ⟨hg1, hq1⟩
      clear hg1 hq1
      go_wp2_with fail
      refine (print32_any u _ HU.out (rd_drewN HR4.out _)).mono ?_
      rintro e w5 ⟨rfl, hB⟩
      have HB5 : Hid (Below _ _ w5) := (below_drewN HB4.out k5).trans (hB.mono HB4.out.size)
      have HR5 : Hid (Rd w5) := (rd_drewN HR4.out _).below hB
      clear hB HB4 HR4
      go_wp2_with fail
      refine (back_p64 (wid u) _ (wid_lt u HU.out) HR5.out).mono ?_
      rintro e w6 ⟨k6, rfl, rfl⟩
      go_wp2_with fail
      refine (narrow_of_wid u _ HU.out).mono ?_
      rintro e w6 ⟨g2, k7, hg1, hq1, rfl, rfl⟩
      have HG2 : Hid (g2 < 4294967296 ∧ c32 g2 = c32 u) := ⟨hg1, hq1⟩
      clear hg1 hq1
      go_wp2_with fail
      refine (same_c x _ HX.out).mono ?_
      rintro e w6 ⟨rfl, rfl⟩
      go_wp2_with fail
      refine (same_g g1 u _ HG1.out.1 HU.out HG1.out.2).mono ?_
      rintro e w6 ⟨rfl, rfl⟩
      go_wp2_with fail
      refine (same_g g2 u _ HG2.out.1 HU.out HG2.out.2).mono ?_
      rintro e w6 ⟨rfl, rfl⟩
      go_wp2_with fail
      obtain ⟨sx, sy, cx, cy, bx, HSX, HSY, HCX, HCY, HSM, hbc, hbt⟩ := two_texts x y HX.out HY.out
      have hbb : (bx != bx) = false := by cases bx <;> rfl
      refine (HSX.out _ (rd_drewN HR5.out _)).mono ?_
      rintro e w6 ⟨rfl, hB⟩
      have HB6 : Hid (Below _ _ w6) := (below_drewN HB5.out (k6 + k7)).trans (hB.mono HB5.out.size)
      have HR6 : Hid (Rd w6) := (rd_drewN HR5.out _).below hB
      clear hB HB5 HR5
      go_wp2_with fail
      refine (HSY.out _ HR6.out).mono ?_
      rintro e w7 ⟨rfl, hB⟩
      have HB7 : Hid (Below _ _ w7) := HB6.out.trans (hB.mono HB6.out.size)
      have HR7 : Hid (Rd w7) := HR6.out.below hB
      clear hB HB6 HR6
      go_wp2_with fail
      refine (HSM.out _).mono ?_
      rintro e w8 ⟨rfl, rfl⟩
      go_wp2_with fail
      refine (HSM.out _).mono ?_
      rintro e w8 ⟨rfl, rfl⟩
      go_wp2_with fail
      refine (HCX.out _).mono ?_
      rintro e w8 ⟨rfl, rfl⟩
      go_wp2_with fail
      refine (HCY.out _).mono ?_
      rintro e w8 ⟨rfl, rfl⟩
      have hss : (s.toList != s.toList) = false := by simp
      have hlast := last_both s HSZ.out
      rcases hlast with ⟨HP, HQ⟩ | ⟨z, HP, HPZ, HQ⟩
      · go_wp2_with fail
        refine (HP.out _ HR7.out).mono ?_
        rintro e w8 ⟨k8, rfl, rfl⟩
        go_wp2_with fail
        refine (HQ.out _ (rd_drewN HR7.out _)).mono ?_
        rintro e w8 ⟨k9, rfl, rfl⟩
        go_wp2_with fail
        refine (b64_zero _).mono ?_
        rintro e w8 ⟨rfl, rfl⟩
        go_wp2_with fail
        refine (b32_zero _).mono ?_
        rintro e w8 ⟨rfl, rfl⟩
        go_wp2
        go_ret
        exact ⟨rfl, below_drewN HB7.out _⟩
      · go_wp2_with fail
        refine (HP.out _ HR7.out).mono ?_
        rintro e w8 ⟨k8, rfl, rfl⟩
        go_wp2_with fail
        refine (HQ.out _ (rd_drewN HR7.out _)).mono ?_
        rintro e w8 ⟨k9, rfl, rfl | ⟨g, rfl, HG⟩⟩
        · go_wp2_with fail
          refine (HPZ.out _ (rd_drewN HR7.out _)).mono ?_
          rintro e w8 ⟨rfl, hB⟩
          have HB8 : Hid (Below _ _ w8) := (below_drewN HB7.out (k8 + k9)).trans (hB.mono HB7.out.size)
          clear hB
          go_wp2_with fail
          refine (b32_zero _).mono ?_
          rintro e w8 ⟨rfl, rfl⟩
          go_wp2
          go_ret
          exact ⟨rfl, HB8.out⟩
        · go_wp2_with fail
          refine (HPZ.out _ (rd_drewN HR7.out _)).mono ?_
          rintro e w8 ⟨rfl, hB⟩
          have HB8 : Hid (Below _ _ w8) := (below_drewN HB7.out (k8 + k9)).trans (hB.mono HB7.out.size)
          have HR8 : Hid (Rd w8) := (rd_drewN HR7.out _).below hB
          clear hB
          go_wp2_with fail
          refine (HG.out _ HR8.out).mono ?_
          rintro e w9 ⟨rfl, hB⟩
          have HB9 : Hid (Below _ _ w9) := HB8.out.trans (hB.mono HB8.out.size)
          clear hB
          go_wp2
          go_ret
          exact ⟨rfl, HB9.out⟩
  · have HR64 : Hid (∀ w, Calls Tryd.prog 12 #[.int .u64 na] w fun r w' => r = .returned (.tuple #[.float .f64 0, .int .i64 10]) ∧ w' = w) := r64
    clear r64
    rcases h32 with ⟨r32, q32⟩ | ⟨r32, d32, n32⟩
    · have HR32 : Hid (∀ w, Calls Tryd.prog 14 #[.int .u32 nc] w fun r w' => r = .returned (.tuple #[.float .f32 nc, .int .i64 0]) ∧ w' = w) := r32
      have HQ32 : Hid (∀ w, Calls Tryd.prog 19 #[.float .f32 nc] w fun r w' => r = .returned (.int .u32 nc) ∧ w' = w) := q32
      clear r32 q32
      go_enter Tryd.func7, Tryd.ntmps7
      go_wp2_with fail
      refine (HA.out _).mono ?_
      rintro e w1 ⟨rfl, rfl⟩
      go_wp2_with fail
      refine (awake_any _ HR.out).mono ?_
      rintro e w2 ⟨rfl, hB⟩
      have HB : Hid (Below _ _ w2) := hB
      have HR2 : Hid (Rd w2) := HR.out.below hB
      clear hB
      go_wp2_with fail
      refine (HR64.out _).mono ?_
      rintro e w3 ⟨rfl, rfl⟩
      go_wp2_with fail
      refine (b64_zero _).mono ?_
      rintro e w3 ⟨rfl, rfl⟩
      go_wp2_with fail
      refine (HR32.out _).mono ?_
      rintro e w3 ⟨rfl, rfl⟩
      go_wp2_with fail
      refine (HQ32.out _).mono ?_
      rintro e w3 ⟨rfl, rfl⟩
      go_wp2_with fail
      refine (HWA.out _).mono ?_
      rintro e w3 ⟨x, k1, hx, rfl, rfl⟩
      have HX : Hid (x < 18446744073709551616) := hx
      clear hx
      go_wp2_with fail
      refine (HWB.out _).mono ?_
      rintro e w3 ⟨y, k2, hy, rfl, rfl⟩
      have HY : Hid (y < 18446744073709551616) := hy
      clear hy
      go_wp2_with fail
      refine (print64_any x _ HX.out (rd_drewN HR2.out _)).mono ?_
      rintro e w3 ⟨rfl, hB⟩
      have HB3 : Hid (Below _ _ w3) := (below_drewN HB.out (k1 + k2)).trans (hB.mono HB.out.size)
      have HR3 : Hid (Rd w3) := (rd_drewN HR2.out _).below hB
      clear hB HB HR2
      go_wp2_with fail
      refine (back_p64 x _ HX.out HR3.out).mono ?_
      rintro e w4 ⟨k3, rfl, rfl⟩
      go_wp2_with fail
      refine (HSC.out _).mono ?_
      rintro e w4 ⟨u, k4, hu, rfl, rfl⟩
      have HU : Hid (u < 4294967296) := hu
      clear hu
      go_wp2_with fail
      refine (print32_any u _ HU.out (rd_drewN HR3.out _)).mono ?_
      rintro e w4 ⟨rfl, hB⟩
      have HB4 : Hid (Below _ _ w4) := (below_drewN HB3.out (k3 + k4)).trans (hB.mono HB3.out.size)
      have HR4 : Hid (Rd w4) := (rd_drewN HR3.out _).below hB
      clear hB HB3 HR3
      go_wp2_with fail
      refine (back_p32 u _ HU.out HR4.out).mono ?_
      rintro e w5 ⟨g1, k5, hg1, hq1, rfl, rfl⟩
      have HG1 : Hid (g1 < 4294967296 ∧ c32 g1 = c32 u) := ⟨hg1, hq1⟩
      clear hg1 hq1
      go_wp2_with fail
      refine (print32_any u _ HU.out (rd_drewN HR4.out _)).mono ?_
      rintro e w5 ⟨rfl, hB⟩
      have HB5 : Hid (Below _ _ w5) := (below_drewN HB4.out k5).trans (hB.mono HB4.out.size)
      have HR5 : Hid (Rd w5) := (rd_drewN HR4.out _).below hB
      clear hB HB4 HR4
      go_wp2_with fail
      refine (back_p64 (wid u) _ (wid_lt u HU.out) HR5.out).mono ?_
      rintro e w6 ⟨k6, rfl, rfl⟩
      go_wp2_with fail
      refine (narrow_of_wid u _ HU.out).mono ?_
      rintro e w6 ⟨g2, k7, hg1, hq1, rfl, rfl⟩
      have HG2 : Hid (g2 < 4294967296 ∧ c32 g2 = c32 u) := ⟨hg1, hq1⟩
      clear hg1 hq1
      go_wp2_with fail
      refine (same_c x _ HX.out).mono ?_
      rintro e w6 ⟨rfl, rfl⟩
      go_wp2_with fail
      refine (same_g g1 u _ HG1.out.1 HU.out HG1.out.2).mono ?_
      rintro e w6 ⟨rfl, rfl⟩
      go_wp2_with fail
      refine (same_g g2 u _ HG2.out.1 HU.out HG2.out.2).mono ?_
      rintro e w6 ⟨rfl, rfl⟩
      go_wp2_with fail
      obtain ⟨sx, sy, cx, cy, bx, HSX, HSY, HCX, HCY, HSM, hbc, hbt⟩ := two_texts x y HX.out HY.out
      have hbb : (bx != bx) = false := by cases bx <;> rfl
      refine (HSX.out _ (rd_drewN HR5.out _)).mono ?_
      rintro e w6 ⟨rfl, hB⟩
      have HB6 : Hid (Below _ _ w6) := (below_drewN HB5.out (k6 + k7)).trans (hB.mono HB5.out.size)
      have HR6 : Hid (Rd w6) := (rd_drewN HR5.out _).below hB
      clear hB HB5 HR5
      go_wp2_with fail
      refine (HSY.out _ HR6.out).mono ?_
      rintro e w7 ⟨rfl, hB⟩
      have HB7 : Hid (Below _ _ w7) := HB6.out.trans (hB.mono HB6.out.size)
      have HR7 : Hid (Rd w7) := HR6.out.below hB
      clear hB HB6 HR6
      go_wp2_with fail
      refine (HSM.out _).mono ?_
      rintro e w8 ⟨rfl, rfl⟩
      go_wp2_with fail
      refine (HSM.out _).mono ?_
      rintro e w8 ⟨rfl, rfl⟩
      go_wp2_with fail
      refine (HCX.out _).mono ?_
      rintro e w8 ⟨rfl, rfl⟩
      go_wp2_with fail
      refine (HCY.out _).mono ?_
      rintro e w8 ⟨rfl, rfl⟩
      have hss : (s.toList != s.toList) = false := by simp
      have hlast := last_both s HSZ.out
      rcases hlast with ⟨HP, HQ⟩ | ⟨z, HP, HPZ, HQ⟩
      · go_wp2_with fail
        refine (HP.out _ HR7.out).mono ?_
        rintro e w8 ⟨k8, rfl, rfl⟩
        go_wp2_with fail
        refine (HQ.out _ (rd_drewN HR7.out _)).mono ?_
        rintro e w8 ⟨k9, rfl, rfl⟩
        go_wp2_with fail
        refine (b64_zero _).mono ?_
        rintro e w8 ⟨rfl, rfl⟩
        go_wp2_with fail
        refine (b32_zero _).mono ?_
        rintro e w8 ⟨rfl, rfl⟩
        go_wp2
        go_ret
        exact ⟨rfl, below_drewN HB7.out _⟩
      · go_wp2_with fail
        refine (HP.out _ HR7.out).mono ?_
        rintro e w8 ⟨k8, rfl, rfl⟩
        go_wp2_with fail
        refine (HQ.out _ (rd_drewN HR7.out _)).mono ?_
        rintro e w8 ⟨k9, rfl, rfl | ⟨g, rfl, HG⟩⟩
        · go_wp2_with fail
          refine (HPZ.out _ (rd_drewN HR7.out _)).mono ?_
          rintro e w8 ⟨rfl, hB⟩
          have HB8 : Hid (Below _ _ w8) := (below_drewN HB7.out (k8 + k9)).trans (hB.mono HB7.out.size)
          clear hB
          go_wp2_with fail
          refine (b32_zero _).mono ?_
          rintro e w8 ⟨rfl, rfl⟩
          go_wp2
          go_ret
          exact ⟨rfl, HB8.out⟩
        · go_wp2_with fail
          refine (HPZ.out _ (rd_drewN HR7.out _)).mono ?_
          rintro e w8 ⟨rfl, hB⟩
          have HB8 : Hid (Below _ _ w8) := (below_drewN HB7.out (k8 + k9)).trans (hB.mono HB7.out.size)
          have HR8 : Hid (Rd w8) := (rd_drewN HR7.out _).below hB
          clear hB
          go_wp2_with fail
          refine (HG.out _ HR8.out).mono ?_
          rintro e w9 ⟨rfl, hB⟩
          have HB9 : Hid (Below _ _ w9) := HB8.out.trans (hB.mono HB8.out.size)
          clear hB
          go_wp2
          go_ret
          exact ⟨rfl, HB9.out⟩
    · have HR32 : Hid (∀ w, Calls Tryd.prog 14 #[.int .u32 nc] w fun r w' => r = .returned (.tuple #[.float .f32 0, .int .i64 10]) ∧ w' = w) := r32
      clear r32
      go_enter Tryd.func7, Tryd.ntmps7
      go_wp2_with fail
      refine (HA.out _).mono ?_
      rintro e w1 ⟨rfl, rfl⟩
      go_wp2_with fail
      refine (awake_any _ HR.out).mono ?_
      rintro e w2 ⟨rfl, hB⟩
      have HB : Hid (Below _ _ w2) := hB
      have HR2 : Hid (Rd w2) := HR.out.below hB
      clear hB
      go_wp2_with fail
      refine (HR64.out _).mono ?_
      rintro e w3 ⟨rfl, rfl⟩
      go_wp2_with fail
      refine (b64_zero _).mono ?_
      rintro e w3 ⟨rfl, rfl⟩
      go_wp2_with fail
      refine (HR32.out _).mono ?_
      rintro e w3 ⟨rfl, rfl⟩
      go_wp2_with fail
      refine (b32_zero _).mono ?_
      rintro e w3 ⟨rfl, rfl⟩
      go_wp2_with fail
      refine (HWA.out _).mono ?_
      rintro e w3 ⟨x, k1, hx, rfl, rfl⟩
      have HX : Hid (x < 18446744073709551616) := hx
      clear hx
      go_wp2_with fail
      refine (HWB.out _).mono ?_
      rintro e w3 ⟨y, k2, hy, rfl, rfl⟩
      have HY : Hid (y < 18446744073709551616) := hy
      clear hy
      go_wp2_with fail
      refine (print64_any x _ HX.out (rd_drewN HR2.out _)).mono ?_
      rintro e w3 ⟨rfl, hB⟩
      have HB3 : Hid (Below _ _ w3) := (below_drewN HB.out (k1 + k2)).trans (hB.mono HB.out.size)
      have HR3 : Hid (Rd w3) := (rd_drewN HR2.out _).below hB
      clear hB HB HR2
      go_wp2_with fail
      refine (back_p64 x _ HX.out HR3.out).mono ?_
      rintro e w4 ⟨k3, rfl, rfl⟩
      go_wp2_with fail
      refine (HSC.out _).mono ?_
      rintro e w4 ⟨u, k4, hu, rfl, rfl⟩
      have HU : Hid (u < 4294967296) := hu
      clear hu
      go_wp2_with fail
      refine (print32_any u _ HU.out (rd_drewN HR3.out _)).mono ?_
      rintro e w4 ⟨rfl, hB⟩
      have HB4 : Hid (Below _ _ w4) := (below_drewN HB3.out (k3 + k4)).trans (hB.mono HB3.out.size)
      have HR4 : Hid (Rd w4) := (rd_drewN HR3.out _).below hB
      clear hB HB3 HR3
      go_wp2_with fail
      refine (back_p32 u _ HU.out HR4.out).mono ?_
      rintro e w5 ⟨g1, k5, hg1, hq1, rfl, rfl⟩
      have HG1 : Hid (g1 < 4294967296 ∧ c32 g1 = c32 u) := ⟨hg1, hq1⟩
      clear hg1 hq1
      go_wp2_with fail
      refine (print32_any u _ HU.out (rd_drewN HR4.out _)).mono ?_
      rintro e w5 ⟨rfl, hB⟩
      have HB5 : Hid (Below _ _ w5) := (below_drewN HB4.out k5).trans (hB.mono HB4.out.size)
      have HR5 : Hid (Rd w5) := (rd_drewN HR4.out _).below hB
      clear hB HB4 HR4
      go_wp2_with fail
      refine (back_p64 (wid u) _ (wid_lt u HU.out) HR5.out).mono ?_
      rintro e w6 ⟨k6, rfl, rfl⟩
      go_wp2_with fail
      refine (narrow_of_wid u _ HU.out).mono ?_
      rintro e w6 ⟨g2, k7, hg1, hq1, rfl, rfl⟩
      have HG2 : Hid (g2 < 4294967296 ∧ c32 g2 = c32 u) := ⟨hg1, hq1⟩
      clear hg1 hq1
      go_wp2_with fail
      refine (same_c x _ HX.out).mono ?_
      rintro e w6 ⟨rfl, rfl⟩
      go_wp2_with fail
      refine (same_g g1 u _ HG1.out.1 HU.out HG1.out.2).mono ?_
      rintro e w6 ⟨rfl, rfl⟩
      go_wp2_with fail
      refine (same_g g2 u _ HG2.out.1 HU.out HG2.out.2).mono ?_
      rintro e w6 ⟨rfl, rfl⟩
      go_wp2_with fail
      obtain ⟨sx, sy, cx, cy, bx, HSX, HSY, HCX, HCY, HSM, hbc, hbt⟩ := two_texts x y HX.out HY.out
      have hbb : (bx != bx) = false := by cases bx <;> rfl
      refine (HSX.out _ (rd_drewN HR5.out _)).mono ?_
      rintro e w6 ⟨rfl, hB⟩
      have HB6 : Hid (Below _ _ w6) := (below_drewN HB5.out (k6 + k7)).trans (hB.mono HB5.out.size)
      have HR6 : Hid (Rd w6) := (rd_drewN HR5.out _).below hB
      clear hB HB5 HR5
      go_wp2_with fail
      refine (HSY.out _ HR6.out).mono ?_
      rintro e w7 ⟨rfl, hB⟩
      have HB7 : Hid (Below _ _ w7) := HB6.out.trans (hB.mono HB6.out.size)
      have HR7 : Hid (Rd w7) := HR6.out.below hB
      clear hB HB6 HR6
      go_wp2_with fail
      refine (HSM.out _).mono ?_
      rintro e w8 ⟨rfl, rfl⟩
      go_wp2_with fail
      refine (HSM.out _).mono ?_
      rintro e w8 ⟨rfl, rfl⟩
      go_wp2_with fail
      refine (HCX.out _).mono ?_
      rintro e w8 ⟨rfl, rfl⟩
      go_wp2_with fail
      refine (HCY.out _).mono ?_
      rintro e w8 ⟨rfl, rfl⟩
      have hss : (s.toList != s.toList) = false := by simp
      have hlast := last_both s HSZ.out
      rcases hlast with ⟨HP, HQ⟩ | ⟨z, HP, HPZ, HQ⟩
      · go_wp2_with fail
        refine (HP.out _ HR7.out).mono ?_
        rintro e w8 ⟨k8, rfl, rfl⟩
        go_wp2_with fail
        refine (HQ.out _ (rd_drewN HR7.out _)).mono ?_
        rintro e w8 ⟨k9, rfl, rfl⟩
        go_wp2_with fail
        refine (b64_zero _).mono ?_
        rintro e w8 ⟨rfl, rfl⟩
        go_wp2_with fail
        refine (b32_zero _).mono ?_
        rintro e w8 ⟨rfl, rfl⟩
        go_wp2
        go_ret
        exact ⟨rfl, below_drewN HB7.out _⟩
      · go_wp2_with fail
        refine (HP.out _ HR7.out).mono ?_
        rintro e w8 ⟨k8, rfl, rfl⟩
        go_wp2_with fail
        refine (HQ.out _ (rd_drewN HR7.out _)).mono ?_
        rintro e w8 ⟨k9, rfl, rfl | ⟨g, rfl, HG⟩⟩
        · go_wp2_with fail
          refine (HPZ.out _ (rd_drewN HR7.out _)).mono ?_
          rintro e w8 ⟨rfl, hB⟩
          have HB8 : Hid (Below _ _ w8) := (below_drewN HB7.out (k8 + k9)).trans (hB.mono HB7.out.size)
          clear hB
          go_wp2_with fail
          refine (b32_zero _).mono ?_
          rintro e w8 ⟨rfl, rfl⟩
          go_wp2
          go_ret
          exact ⟨rfl, HB8.out⟩
        · go_wp2_with fail
          refine (HPZ.out _ (rd_drewN HR7.out _)).mono ?_
          rintro e w8 ⟨rfl, hB⟩
          have HB8 : Hid (Below _ _ w8) := (below_drewN HB7.out (k8 + k9)).trans (hB.mono HB7.out.size)
          have HR8 : Hid (Rd w8) := (rd_drewN HR7.out _).below hB
          clear hB
          go_wp2_with fail
          refine (HG.out _ HR8.out).mono ?_
          rintro e w9 ⟨rfl, hB⟩
          have HB9 : Hid (Below _ _ w9) := HB8.out.trans (hB.mono HB8.out.size)
          clear hB
          go_wp2
          go_ret
          exact ⟨rfl, HB9.out⟩

end Go.Proofs.YtbbikogpfpghbaaDoor
