/- AirCounts: the walk. -/
import Derived.Test.YtlnaejhdnbmmjaaCgE
import Derived.Deep.CutBlock
import Derived.Deep.DeepCutAuto
namespace Go.Proofs.Ytlnaejhdnbmmjaa
open Go.RowKit
/-- which number a step speaks of -/
def numP (l : List Pk) (o : OpR) : Int := if 0 < l.length ∧ Int.tmod o.many 3 ≠ 0 then pickP o.n l.length else o.n
theorem num_cases (l : List Pk) (o : OpR) (hl : l.length ≤ 1000) (hn : -9223372036854775808 ≤ o.n ∧ o.n ≤ 9223372036854775807) :
    ((decide (0 < l.length) && (Int.tmod o.many 3 != 0)) = true ∧ ∀ w, Calls Try.prog 9 #[.int .i64 o.n, .int .i64 l.length] w fun e w' => e = .returned (.int .i64 (numP l o)) ∧ w' = w) ∨
    ((decide (0 < l.length) && (Int.tmod o.many 3 != 0)) = false ∧ numP l o = o.n) := by
  unfold numP
  by_cases h : 0 < l.length ∧ Int.tmod o.many 3 ≠ 0
  · refine .inl ⟨by simp [h.1, h.2], fun w => ?_⟩
    rw [if_pos h]
    exact pick_any _ _ w hn.1 hn.2 (by omega) (by omega)
  · refine .inr ⟨?_, if_neg h⟩
    rw [Bool.eq_false_iff]
    intro e
    simp at e
    exact h ⟨by have := e.1; cases l with | nil => simp at this | cons a b => simp, e.2⟩
theorem PkRow.own {w : World} {B : Nat} {v : Value} {l : List Pk} (h : w.ownsRow B 37 3 v l.length (pks l)) : PkRow w v l := by
  rcases Nat.eq_zero_or_pos l.length with h0 | h0
  · obtain rfl := List.eq_nil_of_length_eq_zero h0
    rcases h.2 with ⟨rfl, _⟩ | ⟨g2, c2, cur, rfl, _⟩
    · exact ⟨none, 0, 0, 0, rfl, fun h => by simp at h, ⟨fun i t h => by simp at h, fun i t h => by simp at h, fun i t h => by simp at h⟩⟩
    · exact ⟨_, c2, 0, 0, rfl, fun h => by simp at h, ⟨fun i t h => by simp at h, fun i t h => by simp at h, fun i t h => by simp at h⟩⟩
  · obtain ⟨q, c, rfl, _, _, _, hat⟩ := own_at h h0
    exact ⟨_, c, q, 0, rfl, fun _ => rfl, hat⟩
theorem wrap64_fits {n : Int} (h : 0 ≤ n ∧ n ≤ 1000000) : wrap64 n = n := by
  have := IntKind.wrap_i64 n
  unfold wrap64
  omega
theorem num_range (l : List Pk) (o : OpR) (hl : l.length ≤ 1000) (hn : -9223372036854775808 ≤ o.n ∧ o.n ≤ 9223372036854775807) : -9223372036854775808 ≤ numP l o ∧ numP l o ≤ 9223372036854775807 := by
  unfold numP
  split
  · rename_i h
    have := pick_range o.n l.length (by omega)
    omega
  · exact hn

set_option maxRecDepth 4000 in
set_option maxHeartbeats 8000000 in
theorem airCounts_any (oa : Option Addr) (b off len cap : Nat) (O : Nat → OpR) (W : World) (hoa : 0 < len → oa = some ⟨b, off, none⟩) (hO : OpsAt W b off len O) (hlen : (len : Int) ≤ 9223372036854775807) :
    Calls Try.prog 4 #[.slice oa len cap] W fun e w' => e = .returned (.bool true) ∧ Below W.heap.size W w' := by
  have H1 := hid (size_any oa b off len cap O W hoa hO hlen)
  go_enter Try.func4, Try.ntmps4
  go_wp2_with fail
  refine H1.out.mono ?_
  rintro e w1 ⟨s, rfl, -, hB1⟩
  clear H1
  by_cases hs : 2147483647 < s
  · have HB := hid hB1
    clear hB1
    go_wp2
    go_ret
    exact ⟨rfl, HB.out⟩
  have hs' : decide (2147483647 < s) = false := decide_eq_false hs
  have H2 := hid (awake_any w1)
  have HB1 := hid hB1
  clear hs hB1
  go_wp2_with fail
  clear hs'
  refine H2.out.mono ?_
  rintro e w2 ⟨rfl, hB2⟩
  have HB2 : Hid (Below W.heap.size W w2) := HB1.out.trans (hB2.mono HB1.out.size)
  have H3 := hid (new_any w2)
  clear hB2 H2
  go_wp2_with fail
  refine H3.out.mono ?_
  rintro e w3 ⟨rfl, hP3, hB3⟩
  obtain ⟨p, hp⟩ : ∃ p, w2.heap.size = p := ⟨_, rfl⟩
  rw [hp] at hP3 ⊢
  have hCT : CT W w3 p [] [] (.slice none 0 0) 0 := ⟨⟨_, _, hP3⟩, World.ownsRow_nil _ _ _ _, fun q e => by simp [Value.ownBlock] at e, by have := hP3.lt; omega, HB2.out.trans (hB3.mono HB2.out.size), by have := HB2.out.size; omega⟩
  have HC := hid hCT
  have HO := hid hO
  clear hCT hP3 hB3 hp H3 hO
  go_wp2_with fail
  go_loopw [5, 6, 7] (fun fl sn i wr => ∃ (k S : Nat) (l : List Pk) (v : Value) (g : Nat), i = .int .i64 k ∧ sn = .int .i64 S ∧ fl = v ∧ k ≤ len ∧ S ≤ k ∧ Hid (CT W wr p l l v g)) (fun _ _ i _ => len - (intOf i).toNat)
  case atStart => exact ⟨0, 0, [], _, 0, rfl, rfl, rfl, by omega, by omega, HC.out⟩
  case round =>
    obtain ⟨k, S, l, v, g, rfl, rfl, rfl, hk, hS, HT⟩ := hrel
    by_cases hlt : k < len
    · have hoa' := hoa (by omega)
      subst hoa'
      have hk' : (k : Int) < (len : Int) := by omega
      have hOr := HO.out.below HT.out.below
      have c0 := hOr.c0 k hlt
      have c1 := hOr.c1 k hlt
      have c2 := hOr.c2 k hlt
      have c3 := hOr.c3 k hlt
      have c4 := hOr.c4 k hlt
      have c5 := hOr.c5 k hlt
      have c6 := hOr.c6 k hlt
      have hnr := hOr.n k hlt
      have hmr := hOr.many k hlt
      have hdr := hOr.da k hlt
      obtain ⟨o, ho⟩ : ∃ o, O k = o := ⟨_, rfl⟩
      rw [ho] at c0 c1 c2 c3 c4 c5 c6 hnr hmr hdr
      have hcs := num_cases l o HT.out.most hnr
      have hNr := num_range l o HT.out.most hnr
      obtain ⟨N, hN⟩ : ∃ N, numP l o = N := ⟨_, rfl⟩
      rw [hN] at hcs hNr
      have HML := hid HT.out.most
      obtain ⟨a, cv, hv⟩ := HT.out.form
      obtain ⟨kd, on, n, mn, pf, pt, pd⟩ := o
      simp only at c0 c1 c2 c3 c4 c5 c6 hnr hmr hcs hdr
      obtain ⟨m, hm⟩ : ∃ m, l.length = m := ⟨_, rfl⟩
      have HM := hid hm
      rw [hm] at hcs hv
      obtain ⟨w4, hw4⟩ : ∃ x, wr.alloc (.cells #[.int .i64 kd, .int .i64 on, .int .i64 n, .int .i64 mn, .int .i64 pf, .int .i64 pt, .string pd] 39) = x := ⟨_, rfl⟩
      have hk4 : Bk w4 wr.heap.size [.int .i64 kd, .int .i64 on, .int .i64 n, .int .i64 mn, .int .i64 pf, .int .i64 pt, .string pd] 39 := by rw [← hw4]; exact Bk.new wr [.int .i64 kd, .int .i64 on, .int .i64 n, .int .i64 mn, .int .i64 pf, .int .i64 pt, .string pd] 39
      have hB4 : Below wr.heap.size wr w4 := by rw [← hw4]; exact below_new _ _
      have HT4 := hid (HT.out.keep hB4)
      have d0 := hk4.cell 0 rfl
      have d2 := hk4.cell 2 rfl
      have d3 := hk4.cell 3 rfl
      have d5 := hk4.cell 5 rfl
      have d6 := hk4.cell 6 rfl
      have HDR := hid hdr
      have HCS := hid hcs
      have HNR := hid hNr
      subst hv
      clear hOr ho hN hm hk4 hB4 hdr hcs hNr
      go_upto_region 14 with fail
      clear hw4 c0 c1 c2 c3 c4 c5 c6
      go_cut [50] from 30 to 176 (fun s wx => s = .bool (decide (0 < m) && (Int.tmod mn 3 != 0)) ∧ Hid (wx = w4))
      case first =>
        as_aux_lemma =>
        clear HCS HNR
        cases z1 : decide (0 < m) <;> cases z2 : (Int.tmod mn 3 != 0)
        · rw [decide_eq_false_iff_not] at z1
          obtain rfl : m = 0 := by omega
          go_wp2_with fail
          go_meet
          exact ⟨rfl, rfl⟩
        · rw [decide_eq_false_iff_not] at z1
          obtain rfl : m = 0 := by omega
          go_wp2_with fail
          go_meet
          exact ⟨rfl, rfl⟩
        · have HZ := hid (And.intro z1 z2)
          rw [decide_eq_true_iff] at z1
          go_wp2_with fail
          go_meet
          exact ⟨by rw [HZ.out.1, HZ.out.2]; rfl, rfl⟩
        · have HZ := hid (And.intro z1 z2)
          rw [decide_eq_true_iff] at z1
          go_wp2_with fail
          go_meet
          exact ⟨by rw [HZ.out.1, HZ.out.2]; rfl, rfl⟩
      case rest =>
      obtain ⟨hv50, HW50⟩ := hcut
      subst hv50
      have hw50 := HW50.out
      subst hw50
      go_upto_if 50 with fail
      go_cut [9] from 30 to 176 (fun s wx => s = .int .i64 N ∧ Hid (wx = wc))
      case first =>
        as_aux_lemma =>
        clear d0 d3 d5 d6
        rcases HCS.out with ⟨q1, H9⟩ | ⟨q1, q3⟩
        · have HP9 := hid H9
          rw [q1]
          clear H9 q1
          go_wp2_with (first | (go_at_call 9; refine (HP9.out _).mono ?_; rintro e w' ⟨rfl, hw'⟩; subst hw'))
          go_meet
          exact ⟨rfl, rfl⟩
        · subst q3
          rw [q1]
          clear q1
          go_wp2_with fail
          go_meet
          exact ⟨rfl, rfl⟩
      case rest =>
        obtain ⟨hv9, HWC⟩ := hcut
        subst hv9
        have hwc := HWC.out
        subst hwc
        clear HCS hmr hnr d3 d2
        go_upto_region 16 with fail
        go_cut [10] from 30 to 176 (fun s wx => s = .bool (hasP l N) ∧ Hid (wx = wc))
        case first =>
          as_aux_lemma =>
          have HH : Hid (hasP l N = (decide (0 ≤ N) && decide (N < (m : Int)))) := by
            show hasP l N = _
            unfold hasP; rw [HM.out]
          clear d0 d5 d6
          cases z1 : decide (0 ≤ N) <;> cases z2 : decide (N < (m : Int)) <;> (have HZ := hid (And.intro z1 z2); go_wp2_with fail; go_meet; exact ⟨by rw [HH.out, HZ.out.1, HZ.out.2]; rfl, rfl⟩)
        case rest =>
          obtain ⟨hv10, HWD⟩ := hcut
          subst hv10
          have hwd := HWD.out
          subst hwd
          by_cases k2 : kd = 2
          · subst k2
            cases hh : hasP l N
            · as_aux_lemma =>
                have HX := hid (has_no hh)
                have HD := hid (HT4.out.dlv N)
                rw [HX.out.1, HX.out.2.1, HX.out.2.2.1] at HD
                obtain ⟨x, hx⟩ : ∃ x, nulP = x := ⟨_, rfl⟩
                rw [hx] at HD
                clear hx hh d5 d6
                go_wp2_with fail
                refine HD.out.mono ?_
                rintro e w5 ⟨rfl, g5, hT5, -⟩
                clear HD

                obtain ⟨w6, hw6⟩ : ∃ y, w5.alloc (.cells #[.int .i64 x.fr, .int .i64 x.to, .string x.da] 37) = y := ⟨_, rfl⟩
                have hkw6 : Bk w6 w5.heap.size [.int .i64 x.fr, .int .i64 x.to, .string x.da] 37 := by rw [← hw6]; exact Bk.new w5 [.int .i64 x.fr, .int .i64 x.to, .string x.da] 37
                have hBw6 : Below w5.heap.size w5 w6 := by rw [← hw6]; exact below_new _ _

                have HT6 := hid (hT5.keep hBw6)
                clear hT5 hkw6 hBw6 d0
                go_wp2_with fail
                clear hw6
                go_quiet (fail)

                go_wp2_with fail
                go_roundw
                case rel =>
                  have hr : ∃ (k' S' : Nat) (l' : List Pk) (v' : Value) (g' : Nat), Value.int .i64 ((k : Int) + 1) = .int .i64 k' ∧ Value.int .i64 (S : Int) = .int .i64 S' ∧ (Value.slice a m cv) = v' ∧ k' ≤ len ∧ S' ≤ k' ∧ Hid (CT W _ p l' l' v' g') := ⟨k + 1, S, l, _, _, by go_num, rfl, rfl, by omega, by omega, HT6.out.keep (below_drew (Below.refl _ _) nq)⟩
                  exact hr
                case measure => simp [intOf]; omega
            · as_aux_lemma =>
                obtain ⟨kk, rfl, hkk⟩ := hasP_nat hh
                rw [HM.out] at hkk
                obtain ⟨q, c2, ev, hq1, hq2, hlc, -⟩ := own_at HT4.out.own (by rw [HM.out]; omega)
                rw [HM.out] at ev
                injection ev with ev1 _ ev2
                subst ev1 ev2
                have hkk' : (kk : Int) < (m : Int) := by omega
                obtain ⟨x, hx⟩ : ∃ x, l[kk]? = some x := ⟨_, List.getElem?_eq_getElem (by rw [HM.out]; exact hkk)⟩
                have HX := hid (has_x hh hx)
                have HXX := hid hx
                have HKK := hid hkk
                have HAT : Hid (∀ w' g', CT W w' p (without l kk) l (.slice (some ⟨q, 0, none⟩) m cv) g' → w'.cell? ⟨q, kk * 3, none⟩ = some (.int .i64 x.fr) ∧ w'.cell? ⟨q, kk * 3 + 1, none⟩ = some (.int .i64 x.to) ∧ w'.cell? ⟨q, kk * 3 + 2, none⟩ = some (.string x.da)) := fun w' g' h => by
                  have ho := h.own
                  rw [HM.out] at ho
                  have ha := PkAt.of_own ho
                  have b0 := ha.c0 kk x HXX.out
                  have b1 := ha.c1 kk x HXX.out
                  have b2 := ha.c2 kk x HXX.out
                  rw [Nat.zero_add] at b0 b1 b2
                  exact ⟨b0, b1, b2⟩
                clear hq1 hq2 hlc hx hkk d5 d6 hh

                have HD := hid (HT4.out.dlv kk)
                rw [HX.out.1, HX.out.2.1, HX.out.2.2.1] at HD
                go_wp2_with fail
                refine HD.out.mono ?_
                rintro e w5 ⟨rfl, g5, hT5, -⟩
                clear HD

                obtain ⟨w6, hw6⟩ : ∃ y, w5.alloc (.cells #[.int .i64 x.fr, .int .i64 x.to, .string x.da] 37) = y := ⟨_, rfl⟩
                have hkw6 : Bk w6 w5.heap.size [.int .i64 x.fr, .int .i64 x.to, .string x.da] 37 := by rw [← hw6]; exact Bk.new w5 [.int .i64 x.fr, .int .i64 x.to, .string x.da] 37
                have hBw6 : Below w5.heap.size w5 w6 := by rw [← hw6]; exact below_new _ _

                have HT6 := hid (hT5.keep hBw6)
                have b0 := (HAT.out _ _ HT6.out).1
                have b1 := (HAT.out _ _ HT6.out).2.1
                have b2 := (HAT.out _ _ HT6.out).2.2
                have p0 := hkw6.cell 0 rfl
                have p1 := hkw6.cell 1 rfl
                have p2 := hkw6.cell 2 rfl
                have hq := fun w => neq37 w x x
                rw [decide_eq_true rfl] at hq
                have hgu := fun w op x y xs ys => guard37n w op x y xs ys
                clear hT5 hkw6 hBw6 d0
                go_wp2_with fail
                clear hw6
                go_quiet (fail)
                clear hq hgu b0 b1 b2 p0 p1 p2
                have HT7 := hid (HT6.out.keep (below_drew (Below.refl _ _) nq))
                have hkk := HKK.out

                obtain ⟨s1, v1, s2, v2, wa, wb, hdd⟩ := del_run HT7.out.own (n := kk) (by rw [HM.out]; exact hkk) (by have := HML.out; omega) HT7.out.below.size
                have hf1 := hdd.f1
                have hf2 := hdd.f2
                have HDD := hid hdd
                have hw64 : wrap64 ((kk : Int) + 1) = (kk : Int) + 1 := wrap64_fits (by have := HML.out; have := HM.out; omega)
                clear hdd
                go_wp2_with (at_builtin; refine Hid.out ?_)
                refine (show Hid _ from ?_)
                refine wpList_app rfl _ _ 43 rfl _ _ _ _ rfl rfl (HDD.out.a1 _) ?_
                go_wp2_with (at_builtin; refine Hid.out ?_)
                refine (show Hid _ from ?_)
                refine wpList_app rfl _ _ 43 rfl _ _ _ _ rfl rfl (HDD.out.a2 _) ?_
                clear hf1 hf2
                go_wp2_with fail
                go_roundw
                case rel =>
                  have hr : ∃ (k' S' : Nat) (l' : List Pk) (v' : Value) (g' : Nat), Value.int .i64 ((k : Int) + 1) = .int .i64 k' ∧ Value.int .i64 (S : Int) = .int .i64 S' ∧ v2 = v' ∧ k' ≤ len ∧ S' ≤ k' ∧ Hid (CT W wb p l' l' v' g') := ⟨k + 1, S, without l kk, v2, _, by go_num, rfl, rfl, by omega, by omega, HT7.out.del HDD.out⟩
                  exact hr
                case measure => simp [intOf]; omega
          by_cases k7 : kd = 7
          · subst k7
            cases hh : hasP l N
            · as_aux_lemma =>
                have HX := hid (has_no hh)
                have HD := hid (HT4.out.dlv N)
                rw [HX.out.1, HX.out.2.1, HX.out.2.2.1] at HD
                obtain ⟨x, hx⟩ : ∃ x, nulP = x := ⟨_, rfl⟩
                rw [hx] at HD
                clear hx hh d5 d6
                go_wp2_with fail
                refine HD.out.mono ?_
                rintro e w5 ⟨rfl, g5, hT5, -⟩
                clear HD

                obtain ⟨w6, hw6⟩ : ∃ y, w5.alloc (.cells #[.int .i64 x.fr, .int .i64 x.to, .string x.da] 37) = y := ⟨_, rfl⟩
                have hkw6 : Bk w6 w5.heap.size [.int .i64 x.fr, .int .i64 x.to, .string x.da] 37 := by rw [← hw6]; exact Bk.new w5 [.int .i64 x.fr, .int .i64 x.to, .string x.da] 37
                have hBw6 : Below w5.heap.size w5 w6 := by rw [← hw6]; exact below_new _ _

                have HT6 := hid (hT5.keep hBw6)
                clear hT5 hkw6 hBw6 d0
                go_wp2_with fail
                clear hw6
                go_quiet (fail)

                go_wp2_with fail
                go_roundw
                case rel =>
                  have hr : ∃ (k' S' : Nat) (l' : List Pk) (v' : Value) (g' : Nat), Value.int .i64 ((k : Int) + 1) = .int .i64 k' ∧ Value.int .i64 (S : Int) = .int .i64 S' ∧ (Value.slice a m cv) = v' ∧ k' ≤ len ∧ S' ≤ k' ∧ Hid (CT W _ p l' l' v' g') := ⟨k + 1, S, l, _, _, by go_num, rfl, rfl, by omega, by omega, HT6.out.keep (below_drew (Below.refl _ _) nq)⟩
                  exact hr
                case measure => simp [intOf]; omega
            · as_aux_lemma =>
                obtain ⟨kk, rfl, hkk⟩ := hasP_nat hh
                rw [HM.out] at hkk
                obtain ⟨q, c2, ev, hq1, hq2, hlc, -⟩ := own_at HT4.out.own (by rw [HM.out]; omega)
                rw [HM.out] at ev
                injection ev with ev1 _ ev2
                subst ev1 ev2
                have hkk' : (kk : Int) < (m : Int) := by omega
                obtain ⟨x, hx⟩ : ∃ x, l[kk]? = some x := ⟨_, List.getElem?_eq_getElem (by rw [HM.out]; exact hkk)⟩
                have HX := hid (has_x hh hx)
                have HXX := hid hx
                have HKK := hid hkk
                have HAT : Hid (∀ w' g', CT W w' p (without l kk) l (.slice (some ⟨q, 0, none⟩) m cv) g' → w'.cell? ⟨q, kk * 3, none⟩ = some (.int .i64 x.fr) ∧ w'.cell? ⟨q, kk * 3 + 1, none⟩ = some (.int .i64 x.to) ∧ w'.cell? ⟨q, kk * 3 + 2, none⟩ = some (.string x.da)) := fun w' g' h => by
                  have ho := h.own
                  rw [HM.out] at ho
                  have ha := PkAt.of_own ho
                  have b0 := ha.c0 kk x HXX.out
                  have b1 := ha.c1 kk x HXX.out
                  have b2 := ha.c2 kk x HXX.out
                  rw [Nat.zero_add] at b0 b1 b2
                  exact ⟨b0, b1, b2⟩
                clear hq1 hq2 hlc hx hkk d5 d6 hh

                have HD := hid (HT4.out.dlv kk)
                rw [HX.out.1, HX.out.2.1, HX.out.2.2.1] at HD
                go_wp2_with fail
                refine HD.out.mono ?_
                rintro e w5 ⟨rfl, g5, hT5, -⟩
                clear HD

                obtain ⟨w6, hw6⟩ : ∃ y, w5.alloc (.cells #[.int .i64 x.fr, .int .i64 x.to, .string x.da] 37) = y := ⟨_, rfl⟩
                have hkw6 : Bk w6 w5.heap.size [.int .i64 x.fr, .int .i64 x.to, .string x.da] 37 := by rw [← hw6]; exact Bk.new w5 [.int .i64 x.fr, .int .i64 x.to, .string x.da] 37
                have hBw6 : Below w5.heap.size w5 w6 := by rw [← hw6]; exact below_new _ _

                have HT6 := hid (hT5.keep hBw6)
                have b0 := (HAT.out _ _ HT6.out).1
                have b1 := (HAT.out _ _ HT6.out).2.1
                have b2 := (HAT.out _ _ HT6.out).2.2
                have p0 := hkw6.cell 0 rfl
                have p1 := hkw6.cell 1 rfl
                have p2 := hkw6.cell 2 rfl
                have hq := fun w => neq37 w x x
                rw [decide_eq_true rfl] at hq
                have hgu := fun w op x y xs ys => guard37n w op x y xs ys
                clear hT5 hkw6 hBw6 d0
                go_wp2_with fail
                clear hw6
                go_quiet (fail)
                clear hq hgu b0 b1 b2 p0 p1 p2
                have HT7 := hid (HT6.out.keep (below_drew (Below.refl _ _) nq))
                have hkk := HKK.out

                obtain ⟨s1, v1, s2, v2, wa, wb, hdd⟩ := del_run HT7.out.own (n := kk) (by rw [HM.out]; exact hkk) (by have := HML.out; omega) HT7.out.below.size
                have hf1 := hdd.f1
                have hf2 := hdd.f2
                have HDD := hid hdd
                have hw64 : wrap64 ((kk : Int) + 1) = (kk : Int) + 1 := wrap64_fits (by have := HML.out; have := HM.out; omega)
                clear hdd
                go_wp2_with (at_builtin; refine Hid.out ?_)
                refine (show Hid _ from ?_)
                refine wpList_app rfl _ _ 43 rfl _ _ _ _ rfl rfl (HDD.out.a1 _) ?_
                go_wp2_with (at_builtin; refine Hid.out ?_)
                refine (show Hid _ from ?_)
                refine wpList_app rfl _ _ 43 rfl _ _ _ _ rfl rfl (HDD.out.a2 _) ?_
                clear hf1 hf2
                go_wp2_with fail
                go_roundw
                case rel =>
                  have hr : ∃ (k' S' : Nat) (l' : List Pk) (v' : Value) (g' : Nat), Value.int .i64 ((k : Int) + 1) = .int .i64 k' ∧ Value.int .i64 (S : Int) = .int .i64 S' ∧ v2 = v' ∧ k' ≤ len ∧ S' ≤ k' ∧ Hid (CT W wb p l' l' v' g') := ⟨k + 1, S, without l kk, v2, _, by go_num, rfl, rfl, by omega, by omega, HT7.out.del HDD.out⟩
                  exact hr
                case measure => simp [intOf]; omega
          by_cases k3 : kd = 3
          · subst k3
            cases hh : hasP l N
            · as_aux_lemma =>
                have HX := hid (has_no hh)
                have HD := hid (HT4.out.drp N)
                rw [HX.out.2.1, HX.out.2.2.1] at HD
                clear hh d5 d6
                go_wp2_with fail
                refine HD.out.mono ?_
                rintro e w5 ⟨rfl, g5, hT5, -⟩
                have HT7 := hid hT5
                clear HD d0 hT5

                go_wp2_with fail
                go_roundw
                case rel =>
                  have hr : ∃ (k' S' : Nat) (l' : List Pk) (v' : Value) (g' : Nat), Value.int .i64 ((k : Int) + 1) = .int .i64 k' ∧ Value.int .i64 (S : Int) = .int .i64 S' ∧ (Value.slice a m cv) = v' ∧ k' ≤ len ∧ S' ≤ k' ∧ Hid (CT W _ p l' l' v' g') := ⟨k + 1, S, l, _, _, by go_num, rfl, rfl, by omega, by omega, HT7.out⟩
                  exact hr
                case measure => simp [intOf]; omega
            · as_aux_lemma =>
                obtain ⟨kk, rfl, hkk⟩ := hasP_nat hh
                rw [HM.out] at hkk
                obtain ⟨q, c2, ev, hq1, hq2, hlc, -⟩ := own_at HT4.out.own (by rw [HM.out]; omega)
                rw [HM.out] at ev
                injection ev with ev1 _ ev2
                subst ev1 ev2
                have hkk' : (kk : Int) < (m : Int) := by omega
                obtain ⟨x, hx⟩ : ∃ x, l[kk]? = some x := ⟨_, List.getElem?_eq_getElem (by rw [HM.out]; exact hkk)⟩
                have HX := hid (has_x hh hx)
                have HXX := hid hx
                have HKK := hid hkk
                have HAT : Hid (∀ w' g', CT W w' p (without l kk) l (.slice (some ⟨q, 0, none⟩) m cv) g' → w'.cell? ⟨q, kk * 3, none⟩ = some (.int .i64 x.fr) ∧ w'.cell? ⟨q, kk * 3 + 1, none⟩ = some (.int .i64 x.to) ∧ w'.cell? ⟨q, kk * 3 + 2, none⟩ = some (.string x.da)) := fun w' g' h => by
                  have ho := h.own
                  rw [HM.out] at ho
                  have ha := PkAt.of_own ho
                  have b0 := ha.c0 kk x HXX.out
                  have b1 := ha.c1 kk x HXX.out
                  have b2 := ha.c2 kk x HXX.out
                  rw [Nat.zero_add] at b0 b1 b2
                  exact ⟨b0, b1, b2⟩
                clear hq1 hq2 hlc hx hkk d5 d6 hh

                have HD := hid (HT4.out.drp kk)
                rw [HX.out.2.1, HX.out.2.2.1] at HD
                go_wp2_with fail
                refine HD.out.mono ?_
                rintro e w5 ⟨rfl, g5, hT5, -⟩
                clear HD d0
                have HT7 := hid hT5
                have hkk := HKK.out
                clear hT5

                obtain ⟨s1, v1, s2, v2, wa, wb, hdd⟩ := del_run HT7.out.own (n := kk) (by rw [HM.out]; exact hkk) (by have := HML.out; omega) HT7.out.below.size
                have hf1 := hdd.f1
                have hf2 := hdd.f2
                have HDD := hid hdd
                have hw64 : wrap64 ((kk : Int) + 1) = (kk : Int) + 1 := wrap64_fits (by have := HML.out; have := HM.out; omega)
                clear hdd
                go_wp2_with (at_builtin; refine Hid.out ?_)
                refine (show Hid _ from ?_)
                refine wpList_app rfl _ _ 43 rfl _ _ _ _ rfl rfl (HDD.out.a1 _) ?_
                go_wp2_with (at_builtin; refine Hid.out ?_)
                refine (show Hid _ from ?_)
                refine wpList_app rfl _ _ 43 rfl _ _ _ _ rfl rfl (HDD.out.a2 _) ?_
                clear hf1 hf2
                go_wp2_with fail
                go_roundw
                case rel =>
                  have hr : ∃ (k' S' : Nat) (l' : List Pk) (v' : Value) (g' : Nat), Value.int .i64 ((k : Int) + 1) = .int .i64 k' ∧ Value.int .i64 (S : Int) = .int .i64 S' ∧ v2 = v' ∧ k' ≤ len ∧ S' ≤ k' ∧ Hid (CT W wb p l' l' v' g') := ⟨k + 1, S, without l kk, v2, _, by go_num, rfl, rfl, by omega, by omega, HT7.out.del HDD.out⟩
                  exact hr
                case measure => simp [intOf]; omega
          by_cases k4 : kd = 4
          · subst k4
            cases hh : hasP l N
            · as_aux_lemma =>
                have HX := hid (has_no hh)
                have HD := hid (HT4.out.dbl N)
                rw [HX.out.2.2.2.1, HX.out.2.2.2.2] at HD
                clear hh d5 d6
                go_wp2_with fail
                refine HD.out.mono ?_
                rintro e w5 ⟨rfl, g5, hT5, -⟩
                have HT7 := hid hT5
                clear HD d0 hT5

                go_wp2_with fail
                go_roundw
                case rel =>
                  have hr : ∃ (k' S' : Nat) (l' : List Pk) (v' : Value) (g' : Nat), Value.int .i64 ((k : Int) + 1) = .int .i64 k' ∧ Value.int .i64 (S : Int) = .int .i64 S' ∧ (Value.slice a m cv) = v' ∧ k' ≤ len ∧ S' ≤ k' ∧ Hid (CT W _ p l' l' v' g') := ⟨k + 1, S, l, _, _, by go_num, rfl, rfl, by omega, by omega, HT7.out⟩
                  exact hr
                case measure => simp [intOf]; omega
            · as_aux_lemma =>
                obtain ⟨kk, rfl, hkk⟩ := hasP_nat hh
                rw [HM.out] at hkk
                obtain ⟨q, c2, ev, hq1, hq2, hlc, -⟩ := own_at HT4.out.own (by rw [HM.out]; omega)
                rw [HM.out] at ev
                injection ev with ev1 _ ev2
                subst ev1 ev2
                have hkk' : (kk : Int) < (m : Int) := by omega
                obtain ⟨x, hx⟩ : ∃ x, l[kk]? = some x := ⟨_, List.getElem?_eq_getElem (by rw [HM.out]; exact hkk)⟩
                have HX := hid (has_x hh hx)
                have HXX := hid hx
                have HKK := hid hkk
                have HAT : Hid (∀ w' g', CT W w' p (dblL l kk) l (.slice (some ⟨q, 0, none⟩) m cv) g' → w'.cell? ⟨q, kk * 3, none⟩ = some (.int .i64 x.fr) ∧ w'.cell? ⟨q, kk * 3 + 1, none⟩ = some (.int .i64 x.to) ∧ w'.cell? ⟨q, kk * 3 + 2, none⟩ = some (.string x.da)) := fun w' g' h => by
                  have ho := h.own
                  rw [HM.out] at ho
                  have ha := PkAt.of_own ho
                  have b0 := ha.c0 kk x HXX.out
                  have b1 := ha.c1 kk x HXX.out
                  have b2 := ha.c2 kk x HXX.out
                  rw [Nat.zero_add] at b0 b1 b2
                  exact ⟨b0, b1, b2⟩
                clear hq1 hq2 hlc hx hkk d5 d6 hh

                have HD := hid (HT4.out.dbl kk)
                by_cases hm : m < 1000
                · have i1 : decide ((m : Int) < 1000) = true := decide_eq_true (by omega)
                  have i2 : decide ((1000 : Int) ≤ (m : Int)) = false := decide_eq_false (by omega)
                  have hpe : putE l = 0 ∧ putL l x = l ++ [x] := by unfold putE putL; rw [HM.out, if_pos hm, if_pos hm]; exact ⟨rfl, rfl⟩
                  rw [HX.out.2.2.2.1, hpe.1] at HD
                  have HPL := hid (HX.out.2.2.2.2.trans hpe.2)
                  clear hm hpe
                  go_wp2_with fail
                  refine HD.out.mono ?_
                  rintro e w5 ⟨rfl, g5, hT5, -⟩
                  have b0 := (HAT.out _ _ hT5).1
                  have b1 := (HAT.out _ _ hT5).2.1
                  have b2 := (HAT.out _ _ hT5).2.2
                  rw [HPL.out] at hT5
                  obtain ⟨w6, hw6⟩ : ∃ y, w5.alloc (.cells #[.int .i64 x.fr, .int .i64 x.to, .string x.da] 37) = y := ⟨_, rfl⟩
                  have hkw6 : Bk w6 w5.heap.size [.int .i64 x.fr, .int .i64 x.to, .string x.da] 37 := by rw [← hw6]; exact Bk.new w5 [.int .i64 x.fr, .int .i64 x.to, .string x.da] 37
                  have hBw6 : Below w5.heap.size w5 w6 := by rw [← hw6]; exact below_new _ _
                  have HT6 := hid (hT5.keep hBw6)
                  clear hT5
                  clear HD d0
                  obtain ⟨q2, cq2, w7, hr7, hT7⟩ := HT6.out.app (PkAt.block1 (x := x) hkw6) (by have := HML.out; omega)
                  have HR7 := hid hr7
                  rw [HM.out] at HR7 hT7
                  have HT7 := hid hT7
                  clear hr7 hT7 hkw6 hBw6
                  go_wp2_with (at_builtin; refine Hid.out ?_)
                  refine (show Hid _ from ?_)
                  refine wpList_app rfl _ _ 43 rfl _ _ _ _ rfl rfl (HR7.out _) ?_
                  clear b0 b1 b2 hw6 i1 i2
                  go_wp2_with fail
                  go_roundw
                  case rel =>
                    have hr : ∃ (k' S' : Nat) (l' : List Pk) (v' : Value) (g' : Nat), Value.int .i64 ((k : Int) + 1) = .int .i64 k' ∧ Value.int .i64 (S : Int) = .int .i64 S' ∧ (Value.slice (some ⟨q2, 0, none⟩) (m + 1) cq2) = v' ∧ k' ≤ len ∧ S' ≤ k' ∧ Hid (CT W _ p l' l' v' g') := ⟨k + 1, S, l ++ [x], _, _, by go_num, rfl, rfl, by omega, by omega, HT7.out⟩
                    exact hr
                  case measure => simp [intOf]; omega
                · have i1 : decide ((m : Int) < 1000) = false := decide_eq_false (by omega)
                  have i2 : decide ((1000 : Int) ≤ (m : Int)) = true := decide_eq_true (by omega)
                  have hpe : putE l = 132 ∧ putL l x = l := by unfold putE putL; rw [HM.out, if_neg hm, if_neg hm]; exact ⟨rfl, rfl⟩
                  rw [HX.out.2.2.2.1, hpe.1] at HD
                  have HPL := hid (HX.out.2.2.2.2.trans hpe.2)
                  clear hm hpe
                  go_wp2_with fail
                  refine HD.out.mono ?_
                  rintro e w5 ⟨rfl, g5, hT5, -⟩
                  rw [HPL.out] at hT5
                  have HT7 := hid hT5
                  clear HD d0 hT5
                  go_wp2_with fail
                  go_roundw
                  case rel =>
                    have hr : ∃ (k' S' : Nat) (l' : List Pk) (v' : Value) (g' : Nat), Value.int .i64 ((k : Int) + 1) = .int .i64 k' ∧ Value.int .i64 (S : Int) = .int .i64 S' ∧ (Value.slice (some ⟨q, 0, none⟩) m cv) = v' ∧ k' ≤ len ∧ S' ≤ k' ∧ Hid (CT W _ p l' l' v' g') := ⟨k + 1, S, l, _, _, by go_num, rfl, rfl, by omega, by omega, HT7.out⟩
                    exact hr
                  case measure => simp [intOf]; omega
          have e2 : (kd == 2) = false := beq_eq_false_iff_ne.2 k2
          have e7 : (kd == 7) = false := beq_eq_false_iff_ne.2 k7
          have e3 : (kd == 3) = false := beq_eq_false_iff_ne.2 k3
          have e4 : (kd == 4) = false := beq_eq_false_iff_ne.2 k4
          clear k2 k7 k3 k4

          obtain ⟨w5, hw5⟩ : ∃ y, wc.alloc (.cells #[.int .i64 (S : Int), .int .i64 pt, .string pd] 37) = y := ⟨_, rfl⟩
          have hkw5 : Bk w5 wc.heap.size [.int .i64 (S : Int), .int .i64 pt, .string pd] 37 := by rw [← hw5]; exact Bk.new wc [.int .i64 (S : Int), .int .i64 pt, .string pd] 37
          have hBw5 : Below wc.heap.size wc w5 := by rw [← hw5]; exact below_new _ _

          have HT5 := hid (HT4.out.keep hBw5)
          have HD := hid (HT5.out.snd ⟨S, pt, pd⟩)
          have HK5 := hid hkw5
          have s0 := hkw5.cell 0 rfl
          have s1 := hkw5.cell 1 rfl
          have s2 := hkw5.cell 2 rfl
          have HNE : Hid (wc.heap.size ≠ p) := by
            obtain ⟨oa, c, h⟩ := HT4.out.pa
            have := h.lt
            show wc.heap.size ≠ p
            omega
          clear hkw5 hBw5
          by_cases h1 : pd.size ≤ 1500 <;> by_cases h2 : m < 1000
          · have j1 : decide ((pd.size : Int) ≤ 1500) = true := decide_eq_true (by omega)
            have i1 : decide ((m : Int) < 1000) = true := decide_eq_true (by omega)
            have hpe : sendE l ⟨S, pt, pd⟩ = 0 ∧ sendL l ⟨S, pt, pd⟩ = l ++ [⟨S, pt, pd⟩] := by unfold sendE sendL; rw [if_pos h1, if_pos h1]; unfold putE putL; rw [HM.out, if_pos h2, if_pos h2]; exact ⟨rfl, rfl⟩
            rw [hpe.1, hpe.2] at HD
            have HJ := hid (And.intro j1 i1)
            clear h1 h2 hpe j1 i1
            go_wp2_with fail
            clear hw5 s0 s1 s2
            refine HD.out.mono ?_
            rintro e w55 ⟨rfl, g5, hT5, hG5⟩
            have hk55 := HK5.out.grown hG5 HNE.out
            obtain ⟨Z, hZ⟩ : ∃ Z : Int, (pd.size : Int) = Z := ⟨_, rfl⟩
            obtain ⟨MM, hMM⟩ : ∃ Z : Int, (m : Int) = Z := ⟨_, rfl⟩
            have j1 := HJ.out.1
            have i1 := HJ.out.2
            rw [hZ] at j1
            rw [hMM] at i1
            have p0 := hk55.cell 0 rfl
            have p1 := hk55.cell 1 rfl
            have p2 := hk55.cell 2 rfl

            obtain ⟨w6, hw6⟩ : ∃ y, w55.alloc (.cells #[.int .i64 (S : Int), .int .i64 pt, .string pd] 37) = y := ⟨_, rfl⟩
            have hkw6 : Bk w6 w55.heap.size [.int .i64 (S : Int), .int .i64 pt, .string pd] 37 := by rw [← hw6]; exact Bk.new w55 [.int .i64 (S : Int), .int .i64 pt, .string pd] 37
            have hBw6 : Below w55.heap.size w55 w6 := by rw [← hw6]; exact below_new _ _

            have HT6 := hid (hT5.keep hBw6)
            clear hT5 hG5 hk55

            clear HD d0
            obtain ⟨q2, cq2, w7, hr7, hT7⟩ := HT6.out.app (PkAt.block1 (x := ⟨S, pt, pd⟩) hkw6) (by have := HML.out; omega)
            have HR7 := hid hr7
            rw [HM.out] at HR7 hT7
            have HT7 := hid hT7
            clear hr7 hT7 hkw6 hBw6
            go_wp2_with (at_builtin; refine Hid.out ?_)
            refine (show Hid _ from ?_)
            refine wpList_app rfl _ _ 43 rfl _ _ _ _ rfl rfl (HR7.out _) ?_

            clear p0 p1 p2 hw6 i1 j1 hZ hMM

            go_wp2_with fail
            go_roundw
            case rel =>
              have hr : ∃ (k' S' : Nat) (l' : List Pk) (v' : Value) (g' : Nat), Value.int .i64 ((k : Int) + 1) = .int .i64 k' ∧ Value.int .i64 ((S : Int) + 1) = .int .i64 S' ∧ (Value.slice (some ⟨q2, 0, none⟩) (m + 1) cq2) = v' ∧ k' ≤ len ∧ S' ≤ k' ∧ Hid (CT W _ p l' l' v' g') := ⟨k + 1, S + 1, _, _, _, by go_num, by go_num, rfl, by omega, by omega, HT7.out⟩
              exact hr
            case measure => simp [intOf]; omega
          · have j1 : decide ((pd.size : Int) ≤ 1500) = true := decide_eq_true (by omega)
            have i1 : decide ((m : Int) < 1000) = false := decide_eq_false (by omega)
            have hpe : sendE l ⟨S, pt, pd⟩ = 132 ∧ sendL l ⟨S, pt, pd⟩ = l := by unfold sendE sendL; rw [if_pos h1, if_pos h1]; unfold putE putL; rw [HM.out, if_neg h2, if_neg h2]; exact ⟨rfl, rfl⟩
            rw [hpe.1, hpe.2] at HD
            have HJ := hid (And.intro j1 i1)
            clear h1 h2 hpe j1 i1
            go_wp2_with fail
            clear hw5 s0 s1 s2
            refine HD.out.mono ?_
            rintro e w55 ⟨rfl, g5, hT5, hG5⟩
            have hk55 := HK5.out.grown hG5 HNE.out
            obtain ⟨Z, hZ⟩ : ∃ Z : Int, (pd.size : Int) = Z := ⟨_, rfl⟩
            obtain ⟨MM, hMM⟩ : ∃ Z : Int, (m : Int) = Z := ⟨_, rfl⟩
            have j1 := HJ.out.1
            have i1 := HJ.out.2
            rw [hZ] at j1
            rw [hMM] at i1
            have p0 := hk55.cell 0 rfl
            have p1 := hk55.cell 1 rfl
            have p2 := hk55.cell 2 rfl

            have HT7 := hid hT5
            clear hT5 hG5 hk55 HD d0

            go_wp2_with fail
            clear i1 j1 hZ hMM
            go_roundw
            case rel =>
              have hr : ∃ (k' S' : Nat) (l' : List Pk) (v' : Value) (g' : Nat), Value.int .i64 ((k : Int) + 1) = .int .i64 k' ∧ Value.int .i64 ((S : Int) + 1) = .int .i64 S' ∧ (Value.slice a m cv) = v' ∧ k' ≤ len ∧ S' ≤ k' ∧ Hid (CT W _ p l' l' v' g') := ⟨k + 1, S + 1, l, _, _, by go_num, by go_num, rfl, by omega, by omega, HT7.out⟩
              exact hr
            case measure => simp [intOf]; omega
          · have j1 : decide ((pd.size : Int) ≤ 1500) = false := decide_eq_false (by omega)
            have i1 : decide ((m : Int) < 1000) = true := decide_eq_true (by omega)
            have hpe : sendE l ⟨S, pt, pd⟩ = 131 ∧ sendL l ⟨S, pt, pd⟩ = l := by unfold sendE sendL; rw [if_neg h1, if_neg h1]; exact ⟨rfl, rfl⟩
            rw [hpe.1, hpe.2] at HD
            have HJ := hid (And.intro j1 i1)
            clear h1 h2 hpe j1 i1
            go_wp2_with fail
            clear hw5 s0 s1 s2
            refine HD.out.mono ?_
            rintro e w55 ⟨rfl, g5, hT5, hG5⟩
            have hk55 := HK5.out.grown hG5 HNE.out
            obtain ⟨Z, hZ⟩ : ∃ Z : Int, (pd.size : Int) = Z := ⟨_, rfl⟩
            obtain ⟨MM, hMM⟩ : ∃ Z : Int, (m : Int) = Z := ⟨_, rfl⟩
            have j1 := HJ.out.1
            have i1 := HJ.out.2
            rw [hZ] at j1
            rw [hMM] at i1
            have p0 := hk55.cell 0 rfl
            have p1 := hk55.cell 1 rfl
            have p2 := hk55.cell 2 rfl

            have HT7 := hid hT5
            clear hT5 hG5 hk55 HD d0

            go_wp2_with fail
            clear i1 j1 hZ hMM
            go_roundw
            case rel =>
              have hr : ∃ (k' S' : Nat) (l' : List Pk) (v' : Value) (g' : Nat), Value.int .i64 ((k : Int) + 1) = .int .i64 k' ∧ Value.int .i64 ((S : Int) + 1) = .int .i64 S' ∧ (Value.slice a m cv) = v' ∧ k' ≤ len ∧ S' ≤ k' ∧ Hid (CT W _ p l' l' v' g') := ⟨k + 1, S + 1, l, _, _, by go_num, by go_num, rfl, by omega, by omega, HT7.out⟩
              exact hr
            case measure => simp [intOf]; omega
          · have j1 : decide ((pd.size : Int) ≤ 1500) = false := decide_eq_false (by omega)
            have i1 : decide ((m : Int) < 1000) = false := decide_eq_false (by omega)
            have hpe : sendE l ⟨S, pt, pd⟩ = 131 ∧ sendL l ⟨S, pt, pd⟩ = l := by unfold sendE sendL; rw [if_neg h1, if_neg h1]; exact ⟨rfl, rfl⟩
            rw [hpe.1, hpe.2] at HD
            have HJ := hid (And.intro j1 i1)
            clear h1 h2 hpe j1 i1
            go_wp2_with fail
            clear hw5 s0 s1 s2
            refine HD.out.mono ?_
            rintro e w55 ⟨rfl, g5, hT5, hG5⟩
            have hk55 := HK5.out.grown hG5 HNE.out
            obtain ⟨Z, hZ⟩ : ∃ Z : Int, (pd.size : Int) = Z := ⟨_, rfl⟩
            obtain ⟨MM, hMM⟩ : ∃ Z : Int, (m : Int) = Z := ⟨_, rfl⟩
            have j1 := HJ.out.1
            have i1 := HJ.out.2
            rw [hZ] at j1
            rw [hMM] at i1
            have p0 := hk55.cell 0 rfl
            have p1 := hk55.cell 1 rfl
            have p2 := hk55.cell 2 rfl

            have HT7 := hid hT5
            clear hT5 hG5 hk55 HD d0

            go_wp2_with fail
            clear i1 j1 hZ hMM
            go_roundw
            case rel =>
              have hr : ∃ (k' S' : Nat) (l' : List Pk) (v' : Value) (g' : Nat), Value.int .i64 ((k : Int) + 1) = .int .i64 k' ∧ Value.int .i64 ((S : Int) + 1) = .int .i64 S' ∧ (Value.slice a m cv) = v' ∧ k' ≤ len ∧ S' ≤ k' ∧ Hid (CT W _ p l' l' v' g') := ⟨k + 1, S + 1, l, _, _, by go_num, by go_num, rfl, by omega, by omega, HT7.out⟩
              exact hr
            case measure => simp [intOf]; omega
    · obtain rfl : k = len := by omega
      have hT := HT.out
      obtain ⟨a, cv, hv⟩ := hT.form
      have HFl : Hid (Calls Try.prog 17 #[.pointer (some ⟨p, 0, none⟩)] wr fun e w' => ∃ ob cap, e = .returned (.slice ob l.length cap) ∧ PkRow w' (.slice ob l.length cap) l ∧ Below wr.heap.size wr w') := by
        obtain ⟨oa, c, hp⟩ := hT.pa
        exact (flying_any hp).mono fun e w' ⟨ob, cap, h1, h2, h3⟩ => ⟨ob, cap, h1, .fly h2, h3⟩
      have HRow := hid (PkRow.own hT.own)
      have HML := hid hT.most
      clear HO hoa hT hS
      subst hv
      go_wp2_with fail
      refine HFl.out.mono ?_
      rintro e w5 ⟨ob, co, rfl, hr, hB⟩
      have HSm := hid (same_any l l _ _ w5 hr (HRow.out.below hB) (by have := HML.out; omega))
      rw [decide_eq_true rfl] at HSm
      have HT5 := hid (HT.out.keep hB)
      clear hr hB HFl
      go_wp2_with fail
      refine HSm.out.mono ?_
      rintro e w6 ⟨rfl, n6, hw6⟩
      have HT6 : Hid (CT W w6 p l l (.slice a l.length cv) g) := by rw [hw6]; exact HT5.out.keep (below_drew (Below.refl _ _) n6)
      have HN : Hid (Calls Try.prog 18 #[.pointer (some ⟨p, 0, none⟩)] w6 fun e w' => e = .returned (.int .i64 0) ∧ w' = w6) := by
        obtain ⟨oa, c, hp⟩ := HT6.out.pa
        exact now_any hp
      clear hw6 HSm
      go_wp2_with (first | (go_at_call 18; refine HN.out.mono ?_; rintro e w' ⟨rfl, rfl⟩))
      go_ret
      exact ⟨rfl, HT6.out.below⟩
end Go.Proofs.Ytlnaejhdnbmmjaa
