/- The document's shelf: All, Takes; wanted, busy. -/
import Derived.Test.YtkkamilmjaochaaPBg
namespace Go.Proofs.Ytkkamilmjaochaa
open Go.RowKit
def takesL (L : List Pr) (ks : List KeyP) : List Pr := ks.foldl dropL L
def takesN : List Pr → List KeyP → Nat
  | _, [] => 0
  | L, k :: ks => (if hasK L k then 1 else 0) + takesN (dropL L k) ks
theorem takesL_snoc (L : List Pr) (ks : List KeyP) (k : KeyP) : takesL L (ks ++ [k]) = dropL (takesL L ks) k := by unfold takesL; rw [List.foldl_append]; rfl
theorem takesN_snoc : ∀ (ks : List KeyP) (L : List Pr) (k : KeyP), takesN L (ks ++ [k]) = takesN L ks + (if hasK (takesL L ks) k then 1 else 0)
  | [], L, k => by
    show (if hasK L k then 1 else 0) + 0 = 0 + (if hasK L k then 1 else 0)
    rw [Nat.add_zero, Nat.zero_add]
  | a :: ks, L, k => by
    show _ + takesN (dropL L a) (ks ++ [k]) = _
    rw [takesN_snoc ks (dropL L a) k]
    show _ = (if hasK L a then 1 else 0) + takesN (dropL L a) ks + _
    rw [Nat.add_assoc]
    rfl
theorem takesN_le : ∀ (ks : List KeyP) (L : List Pr), takesN L ks ≤ ks.length
  | [], L => by simp [takesN]
  | a :: ks, L => by
    have := takesN_le ks (dropL L a)
    unfold takesN
    rw [List.length_cons]
    split <;> omega
theorem nd_takes : ∀ (ks : List KeyP) (L : List Pr), ND L → ND (takesL L ks)
  | [], _, h => h
  | a :: ks, L, h => nd_takes ks (dropL L a) (nd_drop h a)
theorem takes_len : ∀ (ks : List KeyP) (L : List Pr), (takesL L ks).length ≤ L.length
  | [], _ => Nat.le_refl _
  | a :: ks, L => Nat.le_trans (takes_len ks (dropL L a)) (drop_len L a)
theorem kcL (k : KeyP) : (kcK k).length = 2 := rfl
theorem app_nil2 (w : World) (r : TypeId) : (Builtin.append_ #[103, 103] r #[.slice none 0 0, .slice none 0 0]).run Try.prog w = .ok (.slice none 0 0) w := by
  obtain ⟨i, hi, _⟩ := info159
  simp [Builtin.append_, run_underlying Try.underlying103, sizeOf, typeInfo, hi, Builtin.lenOf, Builtin.firstCells]
section
variable {K K' : Nat → Nat} {w w' : World} {B t x most : Nat} {v : Value} {L : List Pr}
theorem dall_any (h : DS K w B t x most v L) (hl : L.length ≤ 10000000) : Calls Try.prog 63 #[ptr x] w fun e w' => ∃ v', e = .returned v' ∧ w'.ownsRow w.heap.size 159 3 v' L.length (L.flatMap prC) ∧ Below w.heap.size w w' := by
  obtain ⟨i, hi, hz, hs, hby⟩ := info159
  obtain ⟨oa, cap, e1, _, hg⟩ := h.l.form
  subst e1
  have c1 := h.c1
  have key : ∃ v' w1, (∀ r, (Builtin.append_ #[103, 103] r #[.slice none 0 0, .slice oa L.length cap]).run Try.prog w = .ok v' w1) ∧ w1.ownsRow w.heap.size 159 3 v' L.length (L.flatMap prC) ∧ Below w.heap.size w w1 := by
    rcases h.l.own.2 with ⟨e1, e2⟩ | ⟨gg, cc, cur, e1, e2, e3, e4, e5, e6, e7⟩
    · rw [e1]
      refine ⟨_, w, fun r => app_nil2 w r, ?_, Below.refl _ _⟩
      have : L = [] := List.length_eq_zero_iff.1 e2
      subst this
      exact ⟨rfl, .inl ⟨rfl, rfl⟩⟩
    · cases e1
      obtain ⟨v', w1, r1, o1, g1, _, _⟩ := run_append_own_at (P := Try.prog) w w.heap.size 103 0 159 i _ 3 32 Try.underlying103 hi hz hs hby rfl (by omega) (.slice none 0 0) 0 [] ⟨rfl, .inl ⟨rfl, rfl⟩⟩ ⟨gg, 0, none⟩ L.length cap (L.flatMap prC) (by rw [fm_len prL])
        (fun j u hu => by
          have hj : j < L.length * 3 := by rw [← fm_len prL]; exact (List.getElem?_eq_some_iff.1 hu).1
          rw [Go.WideShapes.add_plain, Nat.zero_add, h.l.own.cellAt j hj]
          exact hu) (fun u hu => by obtain ⟨z, _, hz⟩ := List.mem_flatMap.1 hu; exact prO z u hz) (by unfold maxLen; omega) (by omega) (Nat.le_refl _)
      rw [Nat.zero_add, List.nil_append] at o1
      exact ⟨v', w1, fun r => r1, o1, ⟨g1.os, g1.tape, g1.output, g1.size, fun b hb => g1.block b hb (fun e => by cases e)⟩⟩
  obtain ⟨v', w1, hr, ho, hb⟩ := key
  have R1 := hid hr
  have HE : Hid (w1.ownsRow w.heap.size 159 3 v' L.length (L.flatMap prC) ∧ Below w.heap.size w w1) := ⟨ho, hb⟩
  obtain ⟨HDp, hHD⟩ : ∃ HDp : Prop, HDp := ⟨True, trivial⟩
  have HHD := hid hHD
  clear h hl hg hr ho hb hHD
  go_enter Try.func63, Try.ntmps63
  go_upto_region 2 with fail
  go_wp2_with (at_builtin; refine decoy (D := HDp) ?_ ?_)
  · exact HHD.out
  refine (show Hid _ from ?_)
  refine wpList_app rfl _ _ 103 rfl _ _ _ _ rfl rfl (R1.out _) ?_
  clear R1 HHD
  go_wp2
  go_ret
  exact ⟨v', rfl, HE.out⟩
set_option maxHeartbeats 1000000 in
theorem dtakes_any (h : DS K w B t x most v L) (hB : B ≤ w.heap.size) (hl : L.length ≤ 10000000) (hnd : ND L) {t' B' : Nat} (ht : t' ≠ t ∧ t' ≠ t + 1) {vk : Value} {ks : List KeyP} (hk : RW 32 2 kcK K w B' t' vk ks) (hkl : ks.length ≤ 10000000) :
    Calls Try.prog 65 #[ptr x, vk] w fun e w' => e = .returned (.int .i64 (takesN L ks : Nat)) ∧ ∃ K' v', DS K' w' B t x most v' (takesL L ks) ∧ Mv (T2 t) w w' K K' := by
  obtain ⟨oa, cap, e1, _, hg⟩ := hk.form
  subst e1
  obtain ⟨n, hn⟩ : ∃ n, ks.length = n := ⟨_, rfl⟩
  have HH := hid (And.intro h hk)
  have HN := hid (And.intro hn (And.intro hkl (And.intro hl (And.intro hB (And.intro hnd ht)))))
  have HG := hid hg
  rw [hn]
  clear h hk hl hnd ht hkl hB hg hn
  go_enter Try.func65, Try.ntmps65
  go_wp2_with fail
  go_loopw [5, 6] (fun u5 u6 wr => ∃ (j : Nat) (K1 : Nat → Nat) (v1 : Value), u6 = .int .i64 j ∧ j ≤ n ∧ u5 = .int .i64 (takesN L (ks.take j) : Nat) ∧ DS K1 wr B t x most v1 (takesL L (ks.take j)) ∧ Mv (T2 t) w wr K K1) (fun _ u6 _ => n - (intOf u6).toNat)
  case atStart => exact ⟨0, K, v, rfl, Nat.zero_le _, rfl, HH.out.1, Mv.refl _ _ _⟩
  case round =>
    obtain ⟨j, K1, v1, rfl, hj, rfl, hd, mv⟩ := hrel
    by_cases hjn : j < n
    · have hj' : (j : Int) < (n : Int) := by omega
      have hj0 : (0 : Int) ≤ (j : Int) := by omega
      obtain ⟨hn, hkl, hl, hB, hnd, ht⟩ := HN.out
      obtain ⟨y, hy⟩ : ∃ y, ks[j]? = some y := ⟨_, List.getElem?_eq_getElem (by rw [hn]; exact hjn)⟩
      obtain ⟨g9, hg9⟩ := HG.out (by omega)
      subst hg9
      have hr := HH.out.2.mv mv (by rintro (q | q) <;> omega)
      rw [hn] at hr
      have t0 : wr.cell? ⟨g9, j * 2, none⟩ = some (.string y.s) := hr.cell kcL hn hy 0 (by omega)
      have t1 : wr.cell? ⟨g9, j * 2 + 1, none⟩ = some (.int .i64 y.n) := hr.cell kcL hn hy 1 (by omega)
      have hwr : wrap64 ((j : Int) + 1) = (j : Int) + 1 := by unfold wrap64; omega
      have HDR := hid (ddrop_any hd (Nat.le_trans hB mv.size) (Nat.le_trans (takes_len _ _) hl) y)
      have htk : ks.take (j + 1) = ks.take j ++ [y] := by rw [List.take_add_one, hy]; rfl
      have HTK : Hid (takesL L (ks.take (j + 1)) = dropL (takesL L (ks.take j)) y ∧ takesN L (ks.take (j + 1)) = takesN L (ks.take j) + (if hasK (takesL L (ks.take j)) y then 1 else 0)) := by rw [htk]; exact ⟨takesL_snoc _ _ _, takesN_snoc _ _ _⟩
      have hle : takesN L (ks.take j) ≤ 10000000 := Nat.le_trans (takesN_le _ _) (by simp; omega)
      obtain ⟨c, hc⟩ : ∃ c : Int, ((takesN L (ks.take j) : Nat) : Int) = c := ⟨_, rfl⟩
      have hwc : wrap64 (c + 1) = c + 1 := by unfold wrap64; omega
      rw [hc]
      have HC := hid hc
      have HMV := hid mv
      have HND := hid (nd_takes (ks.take j) L hnd)
      clear hd mv hr hy htk hle hc hn hkl hl hB hnd ht
      go_wp2_with fail
      refine HDR.out.mono ?_
      rintro _ w2 ⟨cc, L', K2, v2, rfl, hR, hd2, mv2⟩
      obtain ⟨rfl, rfl⟩ := dropR_is hR HND.out
      have HE : Hid (DS K2 w2 B t x most v2 (takesL L (ks.take (j + 1))) ∧ Mv (T2 t) w w2 K K2) := by rw [HTK.out.1]; exact ⟨hd2, HMV.out.trans mv2⟩
      have HN2 := hid HTK.out.2
      clear hR hd2 mv2 HDR
      unfold dropC
      cases hh : hasK (takesL L (ks.take j)) y
      · rw [hh] at HN2
        have q1 : ((141 : Int) == 0) = false := by decide
        simp only [Bool.false_eq_true, if_false]
        clear hh
        go_wp2
        go_roundw
        case rel => exact ⟨j + 1, K2, v2, by first | (rw [hwr]; rfl) | rfl, hjn, by rw [HN2.out, ← HC.out]; rfl, HE.out⟩
        case measure => first | exact meas hwr hj' | exact meas rfl hj'
      · rw [hh] at HN2
        simp only [if_true]
        clear hh
        go_wp2
        go_roundw
        case rel => exact ⟨j + 1, K2, v2, by first | (rw [hwr]; rfl) | rfl, hjn, by rw [HN2.out]; first | (rw [hwc, ← HC.out]; rfl) | (rw [← HC.out]; rfl), HE.out⟩
        case measure => first | exact meas hwr hj' | exact meas rfl hj'
    · obtain rfl : j = n := by omega
      have HE : Hid (∃ K' v', DS K' wr B t x most v' (takesL L ks) ∧ Mv (T2 t) w wr K K') := by
        rw [List.take_of_length_le (by rw [HN.out.1]; exact Nat.le_refl _)] at hd
        exact ⟨K1, v1, hd, mv⟩
      have htl : ks.take j = ks := List.take_of_length_le (by rw [HN.out.1]; exact Nat.le_refl _)
      rw [htl]
      clear hd mv htl
      go_wp2
      go_ret
      exact ⟨rfl, HE.out⟩
end
end Go.Proofs.Ytkkamilmjaochaa
