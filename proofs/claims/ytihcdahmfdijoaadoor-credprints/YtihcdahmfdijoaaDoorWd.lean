/- The document lays a sys down. -/
import Derived.Test.YtihcdahmfdijoaaDoorWc
namespace Go.Proofs.YtihcdahmfdijoaaDoor
open Go.RowKit
/-- the document's Writer, nothing wrong -/
def RL (w : World) (p : Nat) (M : Int) (l : List UInt8) : Prop := RW w p ⟨l.toArray⟩ M 0
def LPost (p : Nat) (M : Int) (l : List UInt8) (w : World) (e : Ending) (w' : World) : Prop := e = .returned (.tuple #[]) ∧ RL w' p M l ∧ Only p w w'
theorem rlay_ok {M : Int} {l t : List UInt8} {s : ByteArray} (hs : s = ⟨t.toArray⟩) (h : (l.length : Int) + t.length ≤ M) : rlay M ⟨l.toArray⟩ 0 s = (⟨(l ++ t).toArray⟩, 0) := by
  subst hs
  unfold rlay
  rw [if_neg (by simp), if_neg (by rw [ba_size, ba_size]; omega), bapp]
theorem lpost {p : Nat} {M : Int} {l t : List UInt8} {s : ByteArray} {w w' : World} {e : Ending} (hs : s = ⟨t.toArray⟩) (h : (l.length : Int) + t.length ≤ M) (hw : Wrote p M (rlay M ⟨l.toArray⟩ 0 s) w e w') : LPost p M (l ++ t) w e w' := by
  rw [rlay_ok hs h] at hw
  exact hw
theorem l_uint (p : Nat) (n M : Int) (l : List UInt8) (w : World) (h : RL w p M l) (hn : isW n) (hM : M ≤ 2147483647) (hr : (l.length : Int) + 4 ≤ M) :
    Calls Tryd.prog 44 #[.pointer (some ⟨p, 0, none⟩), .int .i64 n] w (LPost p M (l ++ nbL 4 n.toNat) w) := by
  refine (ruint_ok p n _ M 0 w h (by rw [ba_size]; omega) hn.1 hn.2).mono fun e w' hp => ?_
  exact lpost (by rw [byL_nbL 4 n hn.1 (by have := hn.2; simp; omega)]) (by rw [nbL_len]; exact hr) hp
theorem l_hyper (p : Nat) (n M : Int) (l : List UInt8) (w : World) (h : RL w p M l) (h0 : 0 ≤ n) (h1 : n ≤ 9223372036854775807) (hM : M ≤ 2147483647) (hr : (l.length : Int) + 8 ≤ M) :
    Calls Tryd.prog 30 #[.pointer (some ⟨p, 0, none⟩), .int .i64 n] w (LPost p M (l ++ nbL 8 n.toNat) w) := by
  refine (rhyper p n _ M 0 w h (by rw [ba_size]; omega) (by omega) h1).mono fun e w' hp => ?_
  exact lpost (by rw [byL_nbL 8 n h0 (by simp; omega)]) (by rw [nbL_len]; exact hr) hp
theorem l_count (p : Nat) (m M : Int) (n : Nat) (l : List UInt8) (w : World) (h : RL w p M l) (hm1 : m ≤ 4294967295) (hn : (n : Int) ≤ m) (hM : M ≤ 2147483647) (hr : (l.length : Int) + 4 ≤ M) :
    Calls Tryd.prog 46 #[.pointer (some ⟨p, 0, none⟩), .int .i64 m, .int .i64 n] w (LPost p M (l ++ nbL 4 n) w) := by
  refine (rcount_ok p m n _ M 0 w h (by rw [ba_size]; omega) (by rw [decide_eq_true (by omega), decide_eq_true hm1]; rfl) (by omega) (by omega) (by omega) hn).mono fun e w' hp => ?_
  have e4 := byL_nbL 4 (n : Int) (by omega) (by simp; omega)
  rw [Int.toNat_natCast] at e4
  exact lpost (by rw [e4]) (by rw [nbL_len]; exact hr) hp
theorem l_opaque (p : Nat) (m M : Int) (s l : List UInt8) (w : World) (h : RL w p M l) (hm1 : m ≤ 4294967295) (hn : (s.length : Int) ≤ m) (hM : M ≤ 2147483647) (hr : (l.length : Int) + (4 + (s.length + pads s.length : Nat)) ≤ M) :
    Calls Tryd.prog 45 #[.pointer (some ⟨p, 0, none⟩), .int .i64 m, .string ⟨s.toArray⟩] w (LPost p M (l ++ (nbL 4 s.length ++ (s ++ padB s.length))) w) := by
  have hb := ba_size s
  have hp3 := padL_len (⟨s.toArray⟩ : ByteArray).size
  refine (ropaque_ok p m ⟨s.toArray⟩ _ M 0 w h (by have := ba_size l; omega) (by rw [decide_eq_true (by omega), decide_eq_true hm1]; rfl) (eq_false (by rw [byL_len]; omega)) (eq_false (by rw [byL_len]; omega)) (by omega) (by omega)).mono fun e w' hp => ?_
  have e4 := byL_nbL 4 (s.length : Int) (by omega) (by simp; omega)
  rw [Int.toNat_natCast] at e4
  refine lpost ?_ ?_ hp
  · rw [ba_size, e4, padL_padB, bapp, bapp, List.append_assoc]
  · rw [List.length_append, List.length_append, nbL_len, padB_len]; omega
theorem Bk.only {w w' : World} {p b : Nat} {cs : List Value} {t : TypeId} (h : Bk w b cs t) (hS : Only p w w') (hb : b ≠ p) : Bk w' b cs t := (hS.block b h.lt hb).trans h
theorem GsAt.only {w w' : World} {p : Nat} {oa : Option Addr} {gs : List Int} (h : GsAt w p oa gs) (hz : p ≤ w.heap.size) (hS : Only p w w') : GsAt w' p oa gs := fun h0 => by
  obtain ⟨q, off, h1, h2, h3⟩ := h h0
  exact ⟨q, off, h1, h2, fun i hi => (cells_of_block (hS.block q (by omega) (by omega)) _).1.trans (h3 i hi)⟩
set_option maxRecDepth 4000 in
set_option maxHeartbeats 2000000 in
theorem rsys_any (p : Nat) (s : SysP) (oa : Option Addr) (ca : Nat) (M : Int) (l : List UInt8) (w : World) (h : RL w p M l) (hm : s.may) (hM : M ≤ 2147483647) (hr : (l.length : Int) + 340 ≤ M) (hg : GsAt w p oa s.groups) :
    Calls Tryd.prog 26 #[.pointer (some ⟨p, 0, none⟩), .agg #[.int .i64 s.stamp, .string ⟨s.machine.toArray⟩, .int .i64 s.user, .int .i64 s.group, .slice oa s.groups.length ca]] w (LPost p M (l ++ s.body) w) := by
  obtain ⟨stamp, machine, user, group, gs⟩ := s
  obtain ⟨h1, h2, h3, h4, h5, h6⟩ := hm
  simp only at h1 h2 h3 h4 h5 h6 hg ⊢
  obtain ⟨n, hn⟩ : ∃ n, gs.length = n := ⟨_, rfl⟩
  have HN := hid hn
  rw [hn]
  rw [hn] at h5
  have hp := h.lt
  obtain ⟨w2, hw2⟩ : ∃ y, w.alloc (.cells #[.int .i64 stamp, .string ⟨machine.toArray⟩, .int .i64 user, .int .i64 group, .slice oa n ca] 24) = y := ⟨_, rfl⟩
  have hB2 : Below w.heap.size w w2 := by rw [← hw2]; exact below_new _ _
  have HK2 : Hid (Bk w2 w.heap.size [.int .i64 stamp, .string ⟨machine.toArray⟩, .int .i64 user, .int .i64 group, .slice oa n ca] 24) := by rw [← hw2]; exact Bk.new _ _ _
  have HO2 : Hid (Only p w w2) := Only.of_below hB2
  have HG := hid (hg.only (by omega) HO2.out)
  have HP : Hid (p < w.heap.size ∧ p ≤ w2.heap.size) := ⟨hp, by have := hB2.size; omega⟩
  have HI := hid (And.intro h1 (And.intro h2 (And.intro h3 (And.intro h4 (And.intro h5 h6)))))
  have HR := hid (And.intro hM hr)
  have HW2 := hid hw2
  have S1 := hid (l_uint p stamp M l w2 (h.below hB2) h1 hM (by omega))
  have K : Hid (∀ w1 : World, Only p w2 w1 → Bk w1 w.heap.size [.int .i64 stamp, .string ⟨machine.toArray⟩, .int .i64 user, .int .i64 group, .slice oa n ca] 24) := fun w1 hO => HK2.out.only hO (by omega)
  have c0 := HK2.out.cell 0 rfl
  clear h1 h2 h3 h4 h5 h6 hg hn hp hB2 h hM hr hw2
  go_enter Tryd.func26, Tryd.ntmps26
  go_wp2_with fail
  rw [HW2.out]
  refine S1.out.mono ?_
  rintro e w3 ⟨rfl, hr3, hO3⟩
  have HO3 := hid hO3
  have k3 := K.out _ hO3
  have d1 := k3.cell 1 rfl
  have S2 := hid (l_opaque p 255 M machine _ w3 hr3 (by decide) (by have := HI.out.2.2.2.1; omega) HR.out.1 (by have := HR.out.2; have := HI.out.2.2.2.1; rw [List.length_append, nbL_len]; unfold pads; omega))
  clear S1 hr3 hO3 k3 c0
  go_wp2_with fail
  refine S2.out.mono ?_
  rintro e w4 ⟨rfl, hr4, hO4⟩
  have HO4 := hid (HO3.out.trans hO4)
  have k4 := K.out _ HO4.out
  have d2 := k4.cell 2 rfl
  obtain ⟨l2, hl2⟩ : ∃ x, l ++ nbL 4 stamp.toNat ++ (nbL 4 machine.length ++ (machine ++ padB machine.length)) = x := ⟨_, rfl⟩
  rw [hl2] at hr4
  have HL2 : Hid ((l2.length : Int) ≤ l.length + 264) := by
    show _ ≤ _
    have := HI.out.2.2.2.1
    rw [← hl2]; simp only [List.length_append, nbL_len, padB_len]; unfold pads; omega
  have HE2 : Hid (l2 = l ++ nbL 4 stamp.toNat ++ (nbL 4 machine.length ++ (machine ++ padB machine.length))) := hl2.symm
  have S3 := hid (l_uint p user M l2 w4 hr4 HI.out.2.1 HR.out.1 (by have := HR.out.2; have := HL2.out; omega))
  clear S2 hr4 hO4 k4 d1 hl2
  go_wp2_with fail
  refine S3.out.mono ?_
  rintro e w5 ⟨rfl, hr5, hO5⟩
  have HO5 := hid (HO4.out.trans hO5)
  have k5 := K.out _ HO5.out
  have d3 := k5.cell 3 rfl
  have S4 := hid (l_uint p group M _ w5 hr5 HI.out.2.2.1 HR.out.1 (by have := HR.out.2; have := HL2.out; rw [List.length_append, nbL_len]; omega))
  clear S3 hr5 hO5 k5 d2
  go_wp2_with fail
  refine S4.out.mono ?_
  rintro e w6 ⟨rfl, hr6, hO6⟩
  have HO6 := hid (HO5.out.trans hO6)
  have k6 := K.out _ HO6.out
  have d4 := k6.cell 4 rfl
  obtain ⟨l4, hl4⟩ : ∃ x, l2 ++ nbL 4 user.toNat ++ nbL 4 group.toNat = x := ⟨_, rfl⟩
  rw [hl4] at hr6
  have HL4 : Hid ((l4.length : Int) ≤ l.length + 272) := by
    show _ ≤ _
    have := HL2.out
    rw [← hl4]; simp only [List.length_append, nbL_len]; omega
  have HE4 : Hid (l4 = l2 ++ nbL 4 user.toNat ++ nbL 4 group.toNat) := hl4.symm
  have S5 := hid (l_count p 16 M n l4 w6 hr6 (by decide) (by have := HI.out.2.2.2.2.1; omega) HR.out.1 (by have := HR.out.2; have := HL4.out; omega))
  clear S4 hr6 hO6 k6 d3 hl4
  go_wp2_with fail
  refine S5.out.mono ?_
  rintro e w7 ⟨rfl, hr7, hO7⟩
  have HO7 := hid (HO6.out.trans hO7)
  have HR7 := hid hr7
  clear S5 hr7 hO7 d4
  go_wp2_with fail
  go_loopw [4] (fun ix wr => ∃ j : Nat, ix = .int .i64 j ∧ j ≤ n ∧ Hid (RL wr p M (l4 ++ nbL 4 n ++ layGs (gs.take j))) ∧ Hid (Only p w2 wr)) (fun ix _ => n - (intOf ix).toNat)
  case atStart =>
    refine ⟨0, rfl, by omega, ?_, HO7⟩
    show RL _ _ _ _
    simpa [layGs] using HR7.out
  case round =>
    obtain ⟨j, rfl, hj, HRr, HOr⟩ := hrel
    have hn16 : (n : Int) ≤ 16 := by have := HI.out.2.2.2.2.1; omega
    have kr := K.out _ HOr.out
    have d4 := kr.cell 4 rfl
    clear kr
    by_cases hlt : j < n
    · obtain ⟨q, off, ho, hq, hc⟩ := (HG.out.only HP.out.2 HOr.out) (by have := HN.out; omega)
      have d1 := hc j (by have := HN.out; omega)
      subst ho
      obtain ⟨v, hv⟩ : ∃ v, gs.getD j 0 = v := ⟨_, rfl⟩
      rw [hv] at d1
      have HJ : Hid (j < gs.length) := by show _ < _; have := HN.out; omega
      have HVW : Hid (isW v) := by
        show isW v
        rw [← hv]
        have := HJ.out
        exact HI.out.2.2.2.2.2 _ (by rw [List.getD_eq_getElem?_getD, List.getElem?_eq_getElem this]; exact List.getElem_mem this)
      have S6 := hid (l_uint p v M _ wr HRr.out HVW.out HR.out.1 (by
        have h1 := HR.out.2
        have h2 := HL4.out
        have h3 := HI.out.2.2.2.2.1
        simp only [List.length_append, nbL_len, layGs_len, List.length_take]
        omega))
      have HE6 : Hid (l4 ++ nbL 4 n ++ layGs (gs.take j) ++ nbL 4 v.toNat = l4 ++ nbL 4 n ++ layGs (gs.take (j + 1))) := by
        show _ = _
        rw [layGs_take gs j HJ.out, hv, List.append_assoc (l4 ++ nbL 4 n)]
      have i0 : (0 : Int) ≤ (j : Int) := by omega
      have i1 : (j : Int) < (n : Int) := by omega
      clear hc hv
      go_wp2_with fail
      refine S6.out.mono ?_
      rintro e w8 ⟨rfl, hr8, hO8⟩
      rw [HE6.out] at hr8
      have HR8 := hid hr8
      have HO8 := hid (HOr.out.trans hO8)
      clear hr8 hO8 S6
      go_wp2
      go_roundw
      case rel => exact ⟨j + 1, by go_num, by omega, HR8, HO8⟩
      case measure => simp [intOf]; omega
    · obtain rfl : j = n := by omega
      go_wp2
      first | go_end0 | refine bodyPost_ret (results_none rfl _ _ _) rfl ?_
      refine ⟨rfl, ?_, HO2.out.trans HOr.out⟩
      have := HRr.out
      rw [List.take_of_length_le (by have := HN.out; omega), HE4.out, HE2.out] at this
      unfold SysP.body
      simp only [HN.out]
      simpa only [List.append_assoc] using this
end Go.Proofs.YtihcdahmfdijoaaDoor
