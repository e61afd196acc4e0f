/- One call of both Writers: each kind, whatever the script says. -/
import Derived.Test.YthnnmgiihpdblaaDoorYb
namespace Go.Proofs.YthnnmgiihpdblaaDoor
open Go.RowKit

theorem bsz (l : List UInt8) : (⟨l.toArray⟩ : ByteArray).size = l.length := by have := bL_size l; omega
theorem rlay_of (M : Int) (S s : ByteArray) (E : Int) (c : Nat) (h : s.size ≤ c) : (rlay M S E s).1.size ≤ S.size + c := Nat.le_trans (rlay_size M S s E) (by omega)
theorem rlay_byL (M : Int) (S : ByteArray) (E : Int) (k : Nat) (n : Int) (c : Nat) (h : k ≤ c) : (rlay M S E ⟨(byL k n).toArray⟩).1.size ≤ S.size + c := rlay_of M S _ E c (by rw [bsz, byL_len]; exact h)
theorem rlay_beL (M : Int) (S : ByteArray) (E : Int) (k : Nat) (n : Nat) (c : Nat) (h : k ≤ c) : (rlay M S E ⟨(beL k n).toArray⟩).1.size ≤ S.size + c := rlay_of M S _ E c (by rw [bsz, beL_len]; exact h)

theorem call_int (p q : Nat) (v : Value) (M E N MM : Int) (o : Bool) (S s : ByteArray) (a b : Nat) (w : World) (h : WW w p q v M S E) (hM0 : 0 ≤ M) (hM1 : M ≤ 9223372036854775807) (hb : S.size + (16 + s.size) ≤ 140737488355328) (hN0 : -9223372036854775808 ≤ N) (hN1 : N ≤ 9223372036854775807) :
    Calls Tryd.prog 40 #[.pointer (some ⟨p, 0, none⟩), .pointer (some ⟨q, 0, none⟩), opcV 1 N MM o s a b] w (WPost p q v M S (16 + s.size) w) := by
  cases hw : (decide (-2147483648 ≤ N) && decide (N ≤ 2147483647))
  · refine writes_int p q _ v M E N MM o S s a b w (S, firstE E 22) h (fun w1 h1 => pint_bad p v N M E S w1 h1 hw) (fun w1 h1 => ?_) (Nat.le_add_right _ _)
    simp only [Bool.and_eq_false_iff, decide_eq_false_iff_not] at hw
    by_cases hl : N < -2147483648
    · have r := rint_low q N S M E w1 h1 (by omega) hN0 hN1 hl
      rw [rlay_failed _ _ _ _ _ (by decide)] at r; exact r
    · have r := rint_high q N S M E w1 h1 (by omega) hN0 hN1 (by omega)
      rw [rlay_failed _ _ _ _ _ (by decide)] at r; exact r
  · refine writes_int p q _ v M E N MM o S s a b w _ h (fun w1 h1 => pint_ok p v N M E S w1 h1 hM0 hM1 (by omega) hw) (fun w1 h1 => ?_) (rlay_byL _ _ _ _ _ _ (by omega))
    simp only [Bool.and_eq_true, decide_eq_true_eq] at hw
    exact rint_ok q N S M E w1 h1 (by omega) hw.1 (by omega)

theorem call_uint (p q : Nat) (v : Value) (M E N MM : Int) (o : Bool) (S s : ByteArray) (a b : Nat) (w : World) (h : WW w p q v M S E) (hM0 : 0 ≤ M) (hM1 : M ≤ 9223372036854775807) (hb : S.size + (16 + s.size) ≤ 140737488355328) (hN0 : -9223372036854775808 ≤ N) (hN1 : N ≤ 9223372036854775807) :
    Calls Tryd.prog 40 #[.pointer (some ⟨p, 0, none⟩), .pointer (some ⟨q, 0, none⟩), opcV 2 N MM o s a b] w (WPost p q v M S (16 + s.size) w) := by
  cases hw : (decide (0 ≤ N) && decide (N ≤ 4294967295))
  · refine writes_uint p q _ v M E N MM o S s a b w (S, firstE E 22) h (fun w1 h1 => puint_bad p v N M E S w1 h1 hw) (fun w1 h1 => ?_) (Nat.le_add_right _ _)
    have r := ruint_bad q N S M E w1 h1 (by omega) hN0 hN1 hw
    rw [rlay_failed _ _ _ _ _ (by decide)] at r; exact r
  · refine writes_uint p q _ v M E N MM o S s a b w _ h (fun w1 h1 => puint_ok p v N M E S w1 h1 hM0 hM1 (by omega) hw) (fun w1 h1 => ?_) (rlay_byL _ _ _ _ _ _ (by omega))
    simp only [Bool.and_eq_true, decide_eq_true_eq] at hw
    exact ruint_ok q N S M E w1 h1 (by omega) hw.1 hw.2

theorem call_hyper (p q : Nat) (v : Value) (M E N MM : Int) (o : Bool) (S s : ByteArray) (a b : Nat) (w : World) (h : WW w p q v M S E) (hM0 : 0 ≤ M) (hM1 : M ≤ 9223372036854775807) (hb : S.size + (16 + s.size) ≤ 140737488355328) (hN0 : -9223372036854775808 ≤ N) (hN1 : N ≤ 9223372036854775807) :
    Calls Tryd.prog 40 #[.pointer (some ⟨p, 0, none⟩), .pointer (some ⟨q, 0, none⟩), opcV 3 N MM o s a b] w (WPost p q v M S (16 + s.size) w) :=
  writes_hyper p q _ v M E N MM o S s a b w _ h (fun w1 h1 => phyper p v N M E S w1 h1 hM0 hM1 (by omega)) (fun w1 h1 => rhyper q N S M E w1 h1 (by omega) hN0 hN1) (rlay_byL _ _ _ _ _ _ (by omega))

theorem call_bool (p q : Nat) (v : Value) (M E N MM : Int) (o : Bool) (S s : ByteArray) (a b : Nat) (w : World) (h : WW w p q v M S E) (hM0 : 0 ≤ M) (hM1 : M ≤ 9223372036854775807) (hb : S.size + (16 + s.size) ≤ 140737488355328) :
    Calls Tryd.prog 40 #[.pointer (some ⟨p, 0, none⟩), .pointer (some ⟨q, 0, none⟩), opcV 4 N MM o s a b] w (WPost p q v M S (16 + s.size) w) := by
  cases hw : (N.tmod 2 != 0)
  · exact writes_bool false p q _ v M E N MM o S s a b w _ h (fun w1 h1 => pbool_false p v M E S w1 h1 hM0 hM1 (by omega)) (fun w1 h1 => rbool_false q S M E w1 h1 (by omega)) hw (rlay_byL _ _ _ _ _ _ (by omega))
  · exact writes_bool true p q _ v M E N MM o S s a b w _ h (fun w1 h1 => pbool_true p v M E S w1 h1 hM0 hM1 (by omega)) (fun w1 h1 => rbool_true q S M E w1 h1 (by omega)) hw (rlay_byL _ _ _ _ _ _ (by omega))

theorem c32_lt (x : Nat) (h : x < 4294967296) : c32 x < 4294967296 := by
  cases hn : nan32 x
  · rw [c32_num x hn]; exact h
  · rw [c32_nan x hn]; omega
theorem byL4_c32 (x : Nat) (h : x < 4294967296) : byL 4 (c32 x : Int) = beL 4 (c32 x) := by
  have := c32_lt x h
  unfold byL
  have e : ((c32 x : Int) % ((256 ^ 4 : Nat) : Int)).toNat = c32 x := by
    rw [show ((256 ^ 4 : Nat) : Int) = 4294967296 from rfl]; omega
  rw [e]
theorem byL8_wrap (m : Nat) (h : m < 18446744073709551616) : byL 8 (IntKind.i64.wrap (m : Int)) = beL 8 m := by
  unfold byL
  have e : (IntKind.i64.wrap (m : Int) % ((256 ^ 8 : Nat) : Int)).toNat = m := by
    rw [show ((256 ^ 8 : Nat) : Int) = 18446744073709551616 from rfl, IntKind.wrap_i64]; omega
  rw [e]
theorem wrap_range (m : Nat) : -9223372036854775808 ≤ IntKind.i64.wrap (m : Int) ∧ IntKind.i64.wrap (m : Int) ≤ 9223372036854775807 := by
  rw [IntKind.wrap_i64]; omega

theorem call_float (p q : Nat) (v : Value) (M E N MM : Int) (o : Bool) (S s : ByteArray) (a b : Nat) (w : World) (h : WW w p q v M S E) (hM0 : 0 ≤ M) (hM1 : M ≤ 9223372036854775807) (hb : S.size + (16 + s.size) ≤ 140737488355328) (ha : a < 4294967296) :
    Calls Tryd.prog 40 #[.pointer (some ⟨p, 0, none⟩), .pointer (some ⟨q, 0, none⟩), opcV 5 N MM o s a b] w (WPost p q v M S (16 + s.size) w) := by
  refine writes_float p q _ v M E N MM o S s a b w (rlay M S E ⟨(beL 4 (c32 a)).toArray⟩) h ha (fun x w1 hx hc h1 => ?_) (fun x w1 hx hc h1 => ?_) (rlay_beL _ _ _ _ _ _ (by omega))
  · have r := pfloat p x v M E S w1 h1 hM0 hM1 (by omega) hx (c32_lt x hx)
    rw [hc] at r; exact r
  · have r := rfloat q x S M E w1 h1 (by omega) hx
    rw [byL4_c32 x hx, hc] at r; exact r

theorem call_double (p q : Nat) (v : Value) (M E N MM : Int) (o : Bool) (S s : ByteArray) (a b : Nat) (w : World) (h : WW w p q v M S E) (hM0 : 0 ≤ M) (hM1 : M ≤ 9223372036854775807) (hb : S.size + (16 + s.size) ≤ 140737488355328) (hbb : b < 18446744073709551616) :
    Calls Tryd.prog 40 #[.pointer (some ⟨p, 0, none⟩), .pointer (some ⟨q, 0, none⟩), opcV 6 N MM o s a b] w (WPost p q v M S (16 + s.size) w) := by
  refine writes_double p q _ v M E N MM o S s a b w (rlay M S E ⟨(beL 8 (c64 b)).toArray⟩) h hbb (fun x w1 hx hc h1 => ?_) (fun x w1 hx hc h1 => ?_) (rlay_beL _ _ _ _ _ _ (by omega))
  · have r := pdouble p x v M E S w1 h1 hM0 hM1 (by omega) hx (c64_lt x hx)
    rw [hc] at r; exact r
  · have hr := wrap_range (c64 x)
    have r := rdouble q x _ S M E w1 h1 (by omega) hx rfl hr.1 hr.2
    rw [byL8_wrap _ (c64_lt x hx), hc] at r; exact r

theorem opaque_size (s : ByteArray) : ((⟨(byL 4 (s.size : Int)).toArray⟩ : ByteArray) ++ s ++ ⟨(padL s.size).toArray⟩).size ≤ 7 + s.size := by
  rw [ByteArray.size_append, ByteArray.size_append, bsz (byL 4 (s.size : Int)), bsz (padL s.size), byL_len]
  have := padL_len s.size
  omega
theorem fixed_size (s : ByteArray) : (s ++ (⟨(padL s.size).toArray⟩ : ByteArray)).size ≤ 3 + s.size := by
  rw [ByteArray.size_append, bsz (padL s.size)]
  have := padL_len s.size
  omega

theorem call_opaque (p q : Nat) (v : Value) (M E N MM : Int) (o : Bool) (S s : ByteArray) (a b : Nat) (w : World) (h : WW w p q v M S E) (hM0 : 0 ≤ M) (hM1 : M ≤ 9223372036854775807) (hb : S.size + (16 + s.size) ≤ 140737488355328) :
    Calls Tryd.prog 40 #[.pointer (some ⟨p, 0, none⟩), .pointer (some ⟨q, 0, none⟩), opcV 8 N MM o s a b] w (WPost p q v M S (16 + s.size) w) := by
  have h1 := padL_len s.size
  have h2 := byL_len 4 (s.size : Int)
  have hln1 : (9223372036854775807 < (byL 4 (s.size : Int)).length + s.size) = False := eq_false (by omega)
  have hln : (9223372036854775807 < (byL 4 (s.size : Int)).length + s.size + (padL s.size).length) = False := eq_false (by omega)
  cases hw : (decide (0 ≤ N) && decide (N ≤ 4294967295))
  · refine writes_opaque p q _ v M E N MM o S s a b w (S, firstE E 22) h (fun w1 h1 => popaque_range p v N M E S s w1 h1 hw) (fun w1 h1 => ?_) (Nat.le_add_right _ _)
    have r := ropaque_range q N s S M E w1 h1 (by omega) hw hln1 hln (by omega)
    rw [rlay_failed _ _ _ _ _ (by decide)] at r; exact r
  · by_cases hl : N < (s.size : Int)
    · refine writes_opaque p q _ v M E N MM o S s a b w (S, firstE E 23) h (fun w1 h1 => popaque_long p v N M E S s w1 h1 hw hl) (fun w1 h1 => ?_) (Nat.le_add_right _ _)
      have r := ropaque_long q N s S M E w1 h1 (by omega) hw hln1 hln (by omega) hl
      rw [rlay_failed _ _ _ _ _ (by decide)] at r; exact r
    · exact writes_opaque p q _ v M E N MM o S s a b w _ h (fun w1 h1 => popaque_ok p v N M E S s w1 h1 hM0 hM1 (by omega) hw (by omega)) (fun w1 h1 => ropaque_ok q N s S M E w1 h1 (by omega) hw hln1 hln (by omega) (by omega))
        (rlay_of _ _ _ _ _ (Nat.le_trans (opaque_size s) (by omega)))

theorem call_count (p q : Nat) (v : Value) (M E N MM : Int) (o : Bool) (S s : ByteArray) (a b : Nat) (w : World) (h : WW w p q v M S E) (hM0 : 0 ≤ M) (hM1 : M ≤ 9223372036854775807) (hb : S.size + (16 + s.size) ≤ 140737488355328) (hN0 : -9223372036854775808 ≤ MM) (hN1 : MM ≤ 9223372036854775807) :
    Calls Tryd.prog 40 #[.pointer (some ⟨p, 0, none⟩), .pointer (some ⟨q, 0, none⟩), opcV 9 N MM o s a b] w (WPost p q v M S (16 + s.size) w) := by
  cases hw : (decide (0 ≤ N) && decide (N ≤ 4294967295))
  · refine writes_count p q _ v M E N MM o S s a b w (S, firstE E 22) h (fun w1 h1 => pcount_most p v N MM M E S w1 h1 hw) (fun w1 h1 => ?_) (Nat.le_add_right _ _)
    have r := rcount_most q N MM S M E w1 h1 (by omega) hw hN0 hN1
    rw [rlay_failed _ _ _ _ _ (by decide)] at r; exact r
  · by_cases h0 : MM < 0
    · refine writes_count p q _ v M E N MM o S s a b w (S, firstE E 22) h (fun w1 h1 => pcount_neg p v N MM M E S w1 h1 hw h0) (fun w1 h1 => ?_) (Nat.le_add_right _ _)
      have r := rcount_neg q N MM S M E w1 h1 (by omega) hw hN0 hN1 h0
      rw [rlay_failed _ _ _ _ _ (by decide)] at r; exact r
    · by_cases hl : N < MM
      · refine writes_count p q _ v M E N MM o S s a b w (S, firstE E 23) h (fun w1 h1 => pcount_long p v N MM M E S w1 h1 hw (by omega) hl) (fun w1 h1 => ?_) (Nat.le_add_right _ _)
        have r := rcount_long q N MM S M E w1 h1 (by omega) hw hN0 hN1 (by omega) hl
        rw [rlay_failed _ _ _ _ _ (by decide)] at r; exact r
      · exact writes_count p q _ v M E N MM o S s a b w _ h (fun w1 h1 => pcount_ok p v N MM M E S w1 h1 hM0 hM1 (by omega) hw (by omega) (by omega)) (fun w1 h1 => rcount_ok q N MM S M E w1 h1 (by omega) hw hN0 hN1 (by omega) (by omega))
          (rlay_byL _ _ _ _ _ _ (by omega))

theorem call_raw (p q : Nat) (v : Value) (M E N MM : Int) (o : Bool) (S s : ByteArray) (a b : Nat) (w : World) (h : WW w p q v M S E) (hM0 : 0 ≤ M) (hM1 : M ≤ 9223372036854775807) (hb : S.size + (16 + s.size) ≤ 140737488355328) :
    Calls Tryd.prog 40 #[.pointer (some ⟨p, 0, none⟩), .pointer (some ⟨q, 0, none⟩), opcV 10 N MM o s a b] w (WPost p q v M S (16 + s.size) w) := by
  cases h4 : ((s.size : Int) % 4 == 0)
  · refine writes_raw p q _ v M E N MM o S s a b w (S, firstE E 1) h (fun w1 h1 => praw_bad p v M E S s w1 h1 h4) (fun w1 h1 => ?_) (Nat.le_add_right _ _)
    have r := rraw_bad q s S M E w1 h1 (by omega) h4
    rw [rlay_failed _ _ _ _ _ (by decide)] at r; exact r
  · exact writes_raw p q _ v M E N MM o S s a b w _ h (fun w1 h1 => praw_ok p v M E S s w1 h1 hM0 hM1 (by omega) h4) (fun w1 h1 => rraw_ok q s S M E w1 h1 (by omega) h4) (rlay_of _ _ _ _ _ (by omega))

theorem call_fail (p q : Nat) (v : Value) (M E N MM : Int) (o : Bool) (S s : ByteArray) (a b : Nat) (w : World) (h : WW w p q v M S E) :
    Calls Tryd.prog 40 #[.pointer (some ⟨p, 0, none⟩), .pointer (some ⟨q, 0, none⟩), opcV 11 N MM o s a b] w (WPost p q v M S (16 + s.size) w) :=
  writes_fail p q _ v M E N MM o S s a b w (S, firstE E N) h (fun w1 h1 => pfail_any p v M E N S w1 h1) (fun w1 h1 => rfail_any q S M E N w1 h1) (Nat.le_add_right _ _)

end Go.Proofs.YthnnmgiihpdblaaDoor
