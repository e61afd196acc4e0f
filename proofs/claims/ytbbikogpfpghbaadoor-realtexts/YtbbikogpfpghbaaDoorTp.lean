/- Both printers and both readers, side by side. -/
import Derived.Test.YtbbikogpfpghbaaDoorTy
import Derived.Test.YtbbikogpfpghbaaDoorNw
import Derived.Test.YtbbikogpfpghbaaDoorW23
namespace Go.Proofs.YtbbikogpfpghbaaDoor
open Go.RowKit

set_option maxHeartbeats 400000 in
theorem dprint64 (x : Nat) (w : World) (h : x < 18446744073709551616) :
    Calls Tryd.prog 28 #[.float .f64 x] w fun e w' => e = .returned (B (textL x)) ∧ ∃ k, w' = w.drewN k := by
  have H1 : Hid (∀ w, Calls Tryd.prog 16 #[.float .f64 x] w fun e w' => e = .returned (.int .u64 (c64 x)) ∧ w' = w) := fun w => bits64_any x w h
  have H2 : Hid (∀ w, Calls Tryd.prog 49 #[.int .u64 (c64 x)] w fun e w' => e = .returned (B (textL x)) ∧ ∃ k, w' = w.drewN k) := fun w => by
    have := text_any (c64 x) w (c64_lt x h)
    rw [text_c64] at this
    exact this
  clear h
  unfold B at *
  go_enter Tryd.func28, Tryd.ntmps28
  go_wp2_with first | (go_at_call 16; refine (H1.out _).mono ?_; rintro e w' ⟨rfl, rfl⟩) | (go_at_call 49; refine (H2.out _).mono ?_; rintro e w' ⟨rfl, k, rfl⟩)
  go_ret
  exact ⟨rfl, k, rfl⟩

theorem text_widW (u : Nat) (w : World) (h : u < 4294967296) : textL (widW u w) = textL (wid u) := by
  rw [← text_c64 (widW u w), (widW_c u w h).2, text_c64]

set_option maxHeartbeats 400000 in
theorem dprint32 (u : Nat) (w : World) (h : u < 4294967296) :
    Calls Tryd.prog 29 #[.float .f32 u] w fun e w' => e = .returned (B (textL (wid u))) ∧ ∃ k, w' = w.drewN k := by
  have hcv := fun W => run_wid u W h
  have H2 : Hid (∀ W w, Calls Tryd.prog 28 #[.float .f64 (widW u W)] w fun e w' => e = .returned (B (textL (wid u))) ∧ ∃ k, w' = w.drewN k) := fun W w => by
    have := dprint64 (widW u W) w (widW_c u W h).1
    rw [text_widW u W h] at this
    exact this
  clear h
  unfold B at *
  go_enter Tryd.func29, Tryd.ntmps29
  go_wp2_with fail
  refine (H2.out _ _).mono ?_
  rintro e w' ⟨rfl, k, rfl⟩
  go_wp2
  go_ret
  exact ⟨rfl, _, rfl⟩

set_option maxHeartbeats 400000 in
theorem dp64_none (s t : ByteArray) (b : Int) (w : World) (hg : ∀ w, Calls Tryd.prog 93 #[.string s] w fun e w' => e = .returned (.int .u64 b) ∧ w' = w) (ht : ∀ w, Calls Tryd.prog 49 #[.int .u64 b] w fun e w' => e = .returned (.string t) ∧ ∃ k, w' = w.drewN k) (hne : (t.toList == s.toList) = false) :
    Calls Tryd.prog 51 #[.string s] w fun e w' => e = .returned (.tuple #[.float .f64 0, .int .i64 11]) ∧ ∃ k, w' = w.drewN k := by
  have H1 : Hid (∀ w, Calls Tryd.prog 93 #[.string s] w fun e w' => e = .returned (.int .u64 b) ∧ w' = w) := hg
  have H2 : Hid (∀ w, Calls Tryd.prog 49 #[.int .u64 b] w fun e w' => e = .returned (.string t) ∧ ∃ k, w' = w.drewN k) := ht
  clear hg ht
  go_enter Tryd.func51, Tryd.ntmps51
  go_wp2_with first | (go_at_call 93; refine (H1.out _).mono ?_; rintro e w' ⟨rfl, rfl⟩) | (go_at_call 49; refine (H2.out _).mono ?_; rintro e w' ⟨rfl, k, rfl⟩)
  go_ret2
  exact ⟨rfl, k, rfl⟩

set_option maxHeartbeats 400000 in
theorem dp64_some (s t : ByteArray) (b : Int) (z : Nat) (w : World) (hg : ∀ w, Calls Tryd.prog 93 #[.string s] w fun e w' => e = .returned (.int .u64 b) ∧ w' = w) (ht : ∀ w, Calls Tryd.prog 49 #[.int .u64 b] w fun e w' => e = .returned (.string t) ∧ ∃ k, w' = w.drewN k) (hne : (t.toList == s.toList) = true)
    (hf : ∀ w, Calls Tryd.prog 13 #[.int .u64 b] w fun e w' => ∃ g k, g < 18446744073709551616 ∧ c64 g = z ∧ e = .returned (.tuple #[.float .f64 g, .int .i64 0]) ∧ w' = w.drewN k) :
    Calls Tryd.prog 51 #[.string s] w fun e w' => ∃ g k, g < 18446744073709551616 ∧ c64 g = z ∧ e = .returned (.tuple #[.float .f64 g, .int .i64 0]) ∧ w' = w.drewN k := by
  have H1 : Hid (∀ w, Calls Tryd.prog 93 #[.string s] w fun e w' => e = .returned (.int .u64 b) ∧ w' = w) := hg
  have H2 : Hid (∀ w, Calls Tryd.prog 49 #[.int .u64 b] w fun e w' => e = .returned (.string t) ∧ ∃ k, w' = w.drewN k) := ht
  have H3 : Hid (∀ w, Calls Tryd.prog 13 #[.int .u64 b] w fun e w' => ∃ g k, g < 18446744073709551616 ∧ c64 g = z ∧ e = .returned (.tuple #[.float .f64 g, .int .i64 0]) ∧ w' = w.drewN k) := hf
  clear hg ht hf
  go_enter Tryd.func51, Tryd.ntmps51
  go_wp2_with first | (go_at_call 93; refine (H1.out _).mono ?_; rintro e w' ⟨rfl, rfl⟩) | (go_at_call 49; refine (H2.out _).mono ?_; rintro e w' ⟨rfl, k, rfl⟩)
  refine (H3.out _).mono ?_
  rintro e w2 ⟨g, k2, hg, hc, rfl, rfl⟩
  have HG : Hid (g < 18446744073709551616 ∧ c64 g = z) := ⟨hg, hc⟩
  clear hg hc
  go_wp2
  go_ret2
  exact ⟨g, _, HG.out.1, HG.out.2, rfl, rfl⟩

/-- The second reader of 64 bits: the first one's answer. -/
theorem dparse64 (s : ByteArray) (w : World) :
    Calls Tryd.prog 51 #[.string s] w fun e w' => ∃ g k, g < 18446744073709551616 ∧ c64 g = c64 ((parseL s.data.toList).getD 0) ∧ e = .returned (.tuple #[.float .f64 g, .int .i64 (if (parseL s.data.toList).isSome then 0 else 11)]) ∧ w' = w.drewN k := by
  have hg := fun w => guess_any s w
  have hlt := guess_lt s.data.toList
  have ht := fun w => text_any (guessL s.data.toList) w hlt
  have hp := guess_parse s.data.toList
  have hl1 : (⟨(textL (guessL s.data.toList)).toArray⟩ : ByteArray).toList = textL (guessL s.data.toList) := by
    rw [Lib.toList_data]
  by_cases he : textL (guessL s.data.toList) = s.data.toList
  · rw [if_pos he] at hp
    rw [hp]
    have hne : ((⟨(textL (guessL s.data.toList)).toArray⟩ : ByteArray).toList == s.toList) = true := by
      rw [hl1, Lib.toList_data s, he]; simp
    refine (dp64_some s _ _ (c64 (guessL s.data.toList)) w hg ht hne ?_).mono fun e w' ⟨g, k, h1, h2, h3, h4⟩ => ⟨g, k, h1, ?_, h3, h4⟩
    · intro w
      cases hn : nan64 (guessL s.data.toList) with
      | false => exact (from64_ok _ w hlt hn).mono fun e w' ⟨a, b⟩ => ⟨_, 0, hlt, rfl, a, b⟩
      | true =>
        rw [textL_nan _ hn] at he
        have e2 : guessL s.data.toList = 9221120237041090560 := by rw [← he]; decide
        rw [e2]
        refine (from64_nan w).mono fun e w' ⟨⟨y, h1, h2, h3⟩, h4⟩ => ⟨y, 1, h2, ?_, h3, h4⟩
        rw [c64_nan y h1]; rfl
    · rw [h2, Option.getD_some, c64_c64]
  · rw [if_neg he] at hp
    rw [hp]
    have hne : ((⟨(textL (guessL s.data.toList)).toArray⟩ : ByteArray).toList == s.toList) = false := by
      rw [hl1, Lib.toList_data s, beq_eq_false_iff_ne]; exact he
    exact (dp64_none s _ _ w hg ht hne).mono fun e w' ⟨a, k, b⟩ => ⟨0, k, by omega, rfl, a, b⟩

/-- Whether a number that was read is a narrow one. -/
def okN (o : Option Nat) : Bool := match o with
  | none => false
  | some z => ((c64 (wid (narF z)) : Int) == (c64 z : Int))
def outN (o : Option Nat) : Nat := if okN o then narF (o.getD 0) else 0
/-- What a reader of 32 bits tells. -/
def Ans32 (o : Option Nat) (w : World) (e : Ending) (w' : World) : Prop := ∃ g k, g < 4294967296 ∧ c32 g = c32 (outN o) ∧ e = .returned (.tuple #[.float .f32 g, .int .i64 (if okN o then 0 else 11)]) ∧ w' = w.drewN k
/-- What a reader of 64 bits tells. -/
def Ans64 (o : Option Nat) (w : World) (e : Ending) (w' : World) : Prop := ∃ g k, g < 18446744073709551616 ∧ c64 g = c64 (o.getD 0) ∧ e = .returned (.tuple #[.float .f64 g, .int .i64 (if o.isSome then 0 else 11)]) ∧ w' = w.drewN k

theorem narF_congr {x y : Nat} (h : c64 x = c64 y) : narF x = narF y := by rw [← narF_c64 x, h, narF_c64]

set_option maxHeartbeats 400000 in
theorem dp32_none (s : ByteArray) (w : World) (hp : ∀ w, Calls Tryd.prog 51 #[.string s] w fun e w' => ∃ g k, g < 18446744073709551616 ∧ e = .returned (.tuple #[.float .f64 g, .int .i64 11]) ∧ w' = w.drewN k) :
    Calls Tryd.prog 52 #[.string s] w fun e w' => e = .returned (.tuple #[.float .f32 0, .int .i64 11]) ∧ ∃ k, w' = w.drewN k := by
  have H1 : Hid (∀ w, Calls Tryd.prog 51 #[.string s] w fun e w' => ∃ g k, g < 18446744073709551616 ∧ e = .returned (.tuple #[.float .f64 g, .int .i64 11]) ∧ w' = w.drewN k) := hp
  clear hp
  go_enter Tryd.func52, Tryd.ntmps52
  go_wp2_with fail
  refine (H1.out _).mono ?_
  rintro e w' ⟨g, k, hg, rfl, rfl⟩
  have HG : Hid (g < 18446744073709551616) := hg
  clear hg
  go_wp2_with fail
  refine (dnarrow g _ HG.out).mono ?_
  rintro e w' ⟨g2, k2, _, _, rfl, rfl⟩
  go_wp2
  go_ret2
  exact ⟨rfl, _, rfl⟩

set_option maxHeartbeats 400000 in
theorem dp32_some (s : ByteArray) (z : Nat) (w : World) (hp : ∀ w, Calls Tryd.prog 51 #[.string s] w fun e w' => ∃ g k, g < 18446744073709551616 ∧ c64 g = c64 z ∧ e = .returned (.tuple #[.float .f64 g, .int .i64 0]) ∧ w' = w.drewN k) :
    Calls Tryd.prog 52 #[.string s] w fun e w' => Ans32 (some z) w e w' := by
  have H1 : Hid (∀ w, Calls Tryd.prog 51 #[.string s] w fun e w' => ∃ g k, g < 18446744073709551616 ∧ c64 g = c64 z ∧ e = .returned (.tuple #[.float .f64 g, .int .i64 0]) ∧ w' = w.drewN k) := hp
  clear hp
  cases hb : okN (some z) with
  | true =>
    have HO : Hid (outN (some z) = narF z ∧ okN (some z) = true) := ⟨by unfold outN; rw [hb]; rfl, hb⟩
    have hb2 : ((c64 (wid (narF z)) : Int) == (c64 z : Int)) = true := hb
    clear hb
    go_enter Tryd.func52, Tryd.ntmps52
    go_wp2_with fail
    refine (H1.out _).mono ?_
    rintro e w' ⟨g, k, hg, hc, rfl, rfl⟩
    have HG : Hid (g < 18446744073709551616 ∧ c64 g = c64 z) := ⟨hg, hc⟩
    clear hg hc
    go_wp2_with fail
    refine (dnarrow g _ HG.out.1).mono ?_
    rw [narF_congr HG.out.2, HG.out.2, hb2]
    rintro e w' ⟨g2, k2, h1, h2, rfl, rfl⟩
    have HG2 : Hid (g2 < 4294967296 ∧ c32 g2 = c32 (narF z)) := ⟨h1, h2⟩
    clear h1 h2 hb2
    go_wp2
    go_ret2
    exact ⟨g2, _, HG2.out.1, by rw [HO.out.1]; exact HG2.out.2, by rw [HO.out.2]; rfl, rfl⟩
  | false =>
    have HO : Hid (outN (some z) = 0 ∧ okN (some z) = false) := ⟨by unfold outN; rw [hb]; rfl, hb⟩
    have hb2 : ((c64 (wid (narF z)) : Int) == (c64 z : Int)) = false := hb
    clear hb
    go_enter Tryd.func52, Tryd.ntmps52
    go_wp2_with fail
    refine (H1.out _).mono ?_
    rintro e w' ⟨g, k, hg, hc, rfl, rfl⟩
    have HG : Hid (g < 18446744073709551616 ∧ c64 g = c64 z) := ⟨hg, hc⟩
    clear hg hc
    go_wp2_with fail
    refine (dnarrow g _ HG.out.1).mono ?_
    rw [narF_congr HG.out.2, HG.out.2, hb2]
    rintro e w' ⟨g2, k2, h1, h2, rfl, rfl⟩
    clear h1 h2 hb2
    go_wp2
    go_ret2
    exact ⟨0, _, by omega, by rw [HO.out.1], by rw [HO.out.2]; rfl, rfl⟩

/-- The second reader of 32 bits. -/
theorem dparse32 (s : ByteArray) (w : World) :
    Calls Tryd.prog 52 #[.string s] w fun e w' => Ans32 (parseL s.data.toList) w e w' := by
  have hp := fun w => dparse64 s w
  cases hz : parseL s.data.toList with
  | none =>
    rw [hz] at hp
    exact (dp32_none s w fun w => (hp w).mono fun e w' ⟨g, k, h1, _, h3, h4⟩ => ⟨g, k, h1, h3, h4⟩).mono fun e w' ⟨a, k, b⟩ => ⟨0, k, by omega, rfl, a, b⟩
  | some z =>
    rw [hz] at hp
    exact dp32_some s z w hp

/-- A narrow number, widened, is narrowed to itself. -/
theorem narF_wid (g : Nat) (h : g < 4294967296) : c64 (wid (narF (c64 (wid g)))) = c64 (wid g) ∧ c32 (narF (c64 (wid g))) = c32 g := by
  rw [narF_c64]
  cases hn : nan32 g with
  | true =>
    have hw : wid g = 9221120237041090560 := by unfold wid; rw [hn]; rfl
    have e : narF (wid g) = 2143289344 := by rw [hw]; unfold narF; rw [if_pos (by decide)]
    rw [e, hw, c32_nan g hn]
    exact ⟨by decide, by decide⟩
  | false =>
    have hc := wid_conv g h hn
    have e : narF (wid g) = g := by
      unfold narF; rw [hc.2.2, there_back g h hn]; rfl
    rw [e]
    exact ⟨rfl, rfl⟩

/-- The first reader of 32 bits, exactly. -/
theorem rparse32 (s : ByteArray) (w : World) (hsz : s.size ≤ 2147483647) (hR : Rd w) :
    Calls Tryd.prog 35 #[.string s] w fun e w' => Ans32 (parseL s.data.toList) w e w' := by
  refine (parse32_any s w hsz hR).mono ?_
  rintro e w' ⟨o, n, rfl, rfl, h1, h2⟩
  cases hz : parseL s.data.toList with
  | none =>
    cases o with
    | none => exact ⟨0, n, by omega, rfl, rfl, rfl⟩
    | some g =>
      obtain ⟨_, z, h3, _⟩ := h1 g rfl
      rw [hz] at h3
      cases h3
  | some z =>
    obtain ⟨_, hzlt, hzc⟩ := text_forth s.data.toList z hz
    have hnl := narF_lt z hzlt
    cases hb : okN (some z) with
    | true =>
      have hb2 : c64 (wid (narF z)) = c64 z := Int.natCast_inj.1 (beq_iff_eq.1 (show ((c64 (wid (narF z)) : Int) == (c64 z : Int)) = true from hb))
      obtain ⟨g, rfl, hg⟩ := h2 (narF z) hnl.1 (by rw [hz, hb2, hzc])
      refine ⟨g, n, (h1 g rfl).1, ?_, by rw [hb]; rfl, rfl⟩
      unfold outN
      rw [hb]
      exact hg
    | false =>
      have hb2 : ((c64 (wid (narF z)) : Int) == (c64 z : Int)) = false := hb
      cases o with
      | none =>
        refine ⟨0, n, by omega, ?_, by rw [hb]; rfl, rfl⟩
        unfold outN; rw [hb]; rfl
      | some g =>
        exfalso
        obtain ⟨hg, z', h3, h4⟩ := h1 g rfl
        rw [hz] at h3
        cases h3
        have := (narF_wid g hg).1
        rw [h4] at this
        rw [this, hzc] at hb2
        simp at hb2

theorem rparse64 (s : ByteArray) (w : World) (hsz : s.size ≤ 2147483647) (hR : Rd w) :
    Calls Tryd.prog 34 #[.string s] w fun e w' => Ans64 (parseL s.data.toList) w e w' := by
  refine (parse64_any s w hsz hR).mono ?_
  rintro e w' ⟨rfl, n, rfl⟩
  refine ⟨(parseL s.data.toList).getD 0, n, ?_, rfl, rfl, rfl⟩
  cases hz : parseL s.data.toList with
  | none => show 0 < _; omega
  | some z => exact (text_forth s.data.toList z hz).2.1


set_option maxHeartbeats 1000000 in
theorem texts_core (s : ByteArray) (C : Nat) (c : Nat) (E F : Int) (w : World) (hR : Rd w)
    (h1 : ∀ w, Rd w → Calls Tryd.prog 34 #[.string s] w fun e w' => ∃ g k, g < 18446744073709551616 ∧ c64 g = C ∧ e = .returned (.tuple #[.float .f64 g, .int .i64 E]) ∧ w' = w.drewN k)
    (h2 : ∀ w, Calls Tryd.prog 51 #[.string s] w fun e w' => ∃ g k, g < 18446744073709551616 ∧ c64 g = C ∧ e = .returned (.tuple #[.float .f64 g, .int .i64 E]) ∧ w' = w.drewN k)
    (h3 : ∀ w, Rd w → Calls Tryd.prog 35 #[.string s] w fun e w' => ∃ g k, g < 4294967296 ∧ c32 g = c ∧ e = .returned (.tuple #[.float .f32 g, .int .i64 F]) ∧ w' = w.drewN k)
    (h4 : ∀ w, Calls Tryd.prog 52 #[.string s] w fun e w' => ∃ g k, g < 4294967296 ∧ c32 g = c ∧ e = .returned (.tuple #[.float .f32 g, .int .i64 F]) ∧ w' = w.drewN k) :
    Calls Tryd.prog 33 #[.string s] w fun e w' => e = .returned (.bool true) ∧ ∃ n, w' = w.drewN n := by
  have H1 : Hid (∀ w, Rd w → Calls Tryd.prog 34 #[.string s] w fun e w' => ∃ g k, g < 18446744073709551616 ∧ c64 g = C ∧ e = .returned (.tuple #[.float .f64 g, .int .i64 E]) ∧ w' = w.drewN k) := h1
  have H2 : Hid (∀ w, Calls Tryd.prog 51 #[.string s] w fun e w' => ∃ g k, g < 18446744073709551616 ∧ c64 g = C ∧ e = .returned (.tuple #[.float .f64 g, .int .i64 E]) ∧ w' = w.drewN k) := h2
  have H3 : Hid (∀ w, Rd w → Calls Tryd.prog 35 #[.string s] w fun e w' => ∃ g k, g < 4294967296 ∧ c32 g = c ∧ e = .returned (.tuple #[.float .f32 g, .int .i64 F]) ∧ w' = w.drewN k) := h3
  have H4 : Hid (∀ w, Calls Tryd.prog 52 #[.string s] w fun e w' => ∃ g k, g < 4294967296 ∧ c32 g = c ∧ e = .returned (.tuple #[.float .f32 g, .int .i64 F]) ∧ w' = w.drewN k) := h4
  have HR : Hid (∀ n, Rd (w.drewN n)) := fun n => rd_drewN hR n
  have HB : Hid (∀ g w, g < 18446744073709551616 ∧ c64 g = C → Calls Tryd.prog 16 #[.float .f64 g] w fun e w' => e = .returned (.int .u64 C) ∧ w' = w) := fun g w h => by
    have := bits64_any g w h.1; rw [h.2] at this; exact this
  have Hb : Hid (∀ g w, g < 4294967296 ∧ c32 g = c → Calls Tryd.prog 17 #[.float .f32 g] w fun e w' => e = .returned (.int .u32 c) ∧ ∃ k, w' = w.drewN k) := fun g w h => by
    have := bits32_any g w h.1; rw [h.2] at this; exact this
  clear h1 h2 h3 h4 hR
  go_enter Tryd.func33, Tryd.ntmps33
  go_wp2_with fail
  refine (H1.out _ (HR.out 0)).mono ?_
  rintro e w1 ⟨g1, k1, hg, hc, rfl, rfl⟩
  have G1 : Hid (g1 < 18446744073709551616 ∧ c64 g1 = C) := ⟨hg, hc⟩
  clear hg hc
  go_wp2_with fail
  refine (H2.out _).mono ?_
  rintro e w1 ⟨g2, k2, hg, hc, rfl, rfl⟩
  have G2 : Hid (g2 < 18446744073709551616 ∧ c64 g2 = C) := ⟨hg, hc⟩
  clear hg hc
  go_wp2_with fail
  refine (H3.out _ (HR.out _)).mono ?_
  rintro e w1 ⟨g3, k3, hg, hc, rfl, rfl⟩
  have G3 : Hid (g3 < 4294967296 ∧ c32 g3 = c) := ⟨hg, hc⟩
  clear hg hc
  go_wp2_with fail
  refine (H4.out _).mono ?_
  rintro e w1 ⟨g4, k4, hg, hc, rfl, rfl⟩
  have G4 : Hid (g4 < 4294967296 ∧ c32 g4 = c) := ⟨hg, hc⟩
  clear hg hc
  go_wp2_with fail
  refine (HB.out g1 _ G1.out).mono ?_
  rintro e w1 ⟨rfl, rfl⟩
  go_wp2_with fail
  refine (HB.out g2 _ G2.out).mono ?_
  rintro e w1 ⟨rfl, rfl⟩
  go_wp2_with fail
  refine (Hb.out g3 _ G3.out).mono ?_
  rintro e w1 ⟨rfl, k5, rfl⟩
  go_wp2_with fail
  refine (Hb.out g4 _ G4.out).mono ?_
  rintro e w1 ⟨rfl, k6, rfl⟩
  go_wp2
  go_ret
  exact ⟨rfl, _, rfl⟩

/-- Both readers of both kinds, at one text. -/
theorem texts_any (s : ByteArray) (w : World) (hsz : s.size ≤ 2147483647) (hR : Rd w) :
    Calls Tryd.prog 33 #[.string s] w fun e w' => e = .returned (.bool true) ∧ ∃ n, w' = w.drewN n :=
  texts_core s _ _ _ _ w hR (fun w h => rparse64 s w hsz h) (fun w => dparse64 s w) (fun w h => rparse32 s w hsz h) (fun w => dparse32 s w)

end Go.Proofs.YtbbikogpfpghbaaDoor
