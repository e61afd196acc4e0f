/- ShelfPlays: the program's Prune, with a keep that may call the shelf. -/
import Derived.Test.YtkkamilmjaochaaPBj
namespace Go.Proofs.Ytkkamilmjaochaa
open Go.RowKit
theorem gone_mem (ans : Nat → Bool) (l : List KeyP) : ∀ j, ∀ k ∈ goneJ ans l j, k ∈ l
  | 0, k, h => by cases h
  | j + 1, k, h => by
    rcases List.mem_append.1 (show k ∈ goneJ ans l j ++ _ from h) with h1 | h1
    · exact gone_mem ans l j k h1
    · split at h1
      · cases h1
      · cases hl : l[j]? with
        | none => rw [hl] at h1; cases h1
        | some y =>
          rw [hl] at h1
          have : k = y := by simpa using h1
          rw [this]
          exact List.mem_of_getElem? hl
set_option maxHeartbeats 2000000 in
set_option maxRecDepth 8000 in
theorem prnW_any {w : World} {K : Nat → Nat} {p most m r ts τ σ : Nat} {L : List (Th KeyP Int)} (h : TS kdK K w ts p most m r L) (hστ : σ ≠ τ) (hσs : σ ≠ ts) (T : Nat → Prop) (hT : ¬ T τ) (hS : ¬ T σ) (Inv : Nat → (Nat → Nat) → World → Prop)
    (hmv : ∀ j K K' a b, Inv j K a → Mv (fun y => y = τ ∨ y = σ) a b K K' → Inv j K' b) (h0 : Inv 0 K w) (ans : Nat → Bool)
    (HK : ∀ j t K wk, L[j]? = some t → Inv j K wk → Calls Try.prog 69 #[keyV t.k, .int .i64 t.v] wk fun e w' => e = .returned (.bool (ans j)) ∧ ∃ K', Inv (j + 1) K' w' ∧ Mv T wk w' K K')
    (P : List Pr) (hP : ∀ K w, Inv L.length K w → ∃ L', prs L' = P ∧ TS kdK K w ts p most m r L') :
    Calls Try.prog 60 #[ptr p, .func (.func 69) #[] #[]] w fun e w' => e = .returned (.int .i64 (takesN P (goneJ ans (L.map Th.k) L.length) : Nat)) ∧ ∃ K1 w1 K' L', Inv L.length K1 w1 ∧ Mv (fun y => (y = τ ∨ y = σ) ∨ T y) w w1 K K1 ∧ TS kdK K' w' ts p most m r L' ∧ prs L' = takesL P (goneJ ans (L.map Th.k) L.length) ∧ Mv (fun y => y = ts) w1 w' K1 K' := by
  have HU := hid (unwW_any h.sh (Nat.le_refl _) hστ T hT hS Inv hmv h0 ans HK)
  have HKO : Hid (∀ k ∈ goneJ ans (L.map Th.k) L.length, KOk k) := fun k hk => by
    obtain ⟨t, ht, rfl⟩ := List.mem_map.1 (gone_mem _ _ _ k hk)
    exact h.sh.ok t ht
  have HLN : Hid ((goneJ ans (L.map Th.k) L.length).length ≤ 1048576) := Nat.le_trans (gone_len _ _ _) (Nat.le_trans h.sh.len h.sh.m20)
  have HPP := hid (And.intro hP hσs)
  clear h hστ hT hS hmv h0 HK hP hσs
  generalize goneJ ans (L.map Th.k) L.length = G at *
  generalize L.length = nL at *
  go_enter Try.func60, Try.ntmps60
  go_wp2_with fail
  refine HU.out.mono ?_
  rintro _ w1 ⟨v, K1, rfl, hg, hinv, mv1⟩
  obtain ⟨L1, hL1, ts1⟩ := HPP.out.1 _ _ hinv
  obtain ⟨oa, cap, e1, _, hgg⟩ := hg.form
  subst e1
  obtain ⟨n, hn⟩ : ∃ n, G.length = n := ⟨_, rfl⟩
  have HG := hid hg
  have HGG := hid hgg
  have HE := hid (And.intro hinv mv1)
  have HT1 := hid (And.intro hL1 ts1)
  have HN := hid hn
  rw [hn]
  clear HU hg hgg hinv mv1 hL1 ts1 hn
  go_wp2_with fail
  go_loopw [5, 12] (fun u5 u12 wr => ∃ (j : Nat) (K2 : Nat → Nat) (L2 : List (Th KeyP Int)), u12 = .int .i64 j ∧ j ≤ n ∧ u5 = .int .i64 (takesN P (G.take j) : Nat) ∧ TS kdK K2 wr ts p most m r L2 ∧ prs L2 = takesL P (G.take j) ∧ Mv (fun y => y = ts) w1 wr K1 K2) (fun _ u12 _ => n - (intOf u12).toNat)
  case atStart => exact ⟨0, K1, L1, rfl, Nat.zero_le _, rfl, HT1.out.2, HT1.out.1, Mv.refl _ _ _⟩
  case round =>
    obtain ⟨j, K2, L2, rfl, hj, rfl, hd, hp2, mv⟩ := hrel
    by_cases hjn : j < n
    · have hj' : (j : Int) < (n : Int) := by omega
      have hj0 : (0 : Int) ≤ (j : Int) := by omega
      have hn := HN.out
      have hnl := HLN.out
      obtain ⟨y, hy⟩ : ∃ y, G[j]? = some y := ⟨_, List.getElem?_eq_getElem (by rw [hn]; exact hjn)⟩
      obtain ⟨g9, hg9⟩ := HGG.out (by omega)
      subst hg9
      have hr := HG.out.mv mv HPP.out.2
      rw [hn] at hr
      have t0 : wr.cell? ⟨g9, j * 2, none⟩ = some (.string y.s) := hr.cell kcL hn hy 0 (by omega)
      have t1 : wr.cell? ⟨g9, j * 2 + 1, none⟩ = some (.int .i64 y.n) := hr.cell kcL hn hy 1 (by omega)
      have hwr : wrap64 ((j : Int) + 1) = (j : Int) + 1 := by unfold wrap64; omega
      obtain ⟨A, hA⟩ : ∃ A, wr.heap.size = A := ⟨_, rfl⟩
      obtain ⟨w3, hw3⟩ : ∃ w3, wr.alloc (.cells #[.string ⟨#[]⟩, .int .i64 0] 32) = w3 := ⟨_, rfl⟩
      obtain ⟨w4, hw4⟩ : ∃ w4, w3.setCell ⟨A, 0, none⟩ (.string y.s) = w4 := ⟨_, rfl⟩
      obtain ⟨w5, hw5⟩ : ∃ w5, w4.setCell ⟨A, 1, none⟩ (.int .i64 y.n) = w5 := ⟨_, rfl⟩
      have k3 : w3.heap[A]? = some (.cells #[.string ⟨#[]⟩, .int .i64 0] 32) := by rw [← hw3, ← hA]; exact (MapKept.heap_alloc wr _).1
      have k4 : w4.heap[A]? = some (.cells #[.string y.s, .int .i64 0] 32) := by rw [← hw4]; unfold World.setCell; simp [Array.getElem?_modify, k3]
      have k5 : w5.heap[A]? = some (.cells #[.string y.s, .int .i64 y.n] 32) := by rw [← hw5]; unfold World.setCell; simp [Array.getElem?_modify, k4]
      have hb5 : Below wr.heap.size wr w5 := by
        have b0 : Below wr.heap.size wr w3 := by rw [← hw3]; exact (Below.refl _ _).alloc (Nat.le_refl _) _
        refine ⟨?_, ?_, ?_, ?_, fun b hb => ?_⟩
        · rw [← hw5, ← hw4]; exact b0.os
        · rw [← hw5, ← hw4]; exact b0.tape
        · rw [← hw5, ← hw4]; exact b0.output
        · rw [← hw5, ← hw4]; simpa [World.setCell] using b0.size
        · rw [← hw5, Below.heap_setCell _ _ _ _ (show b ≠ A by omega), ← hw4, Below.heap_setCell _ _ _ _ (show b ≠ A by omega)]; exact b0.block b hb
      have c30 : w3.cell? ⟨A, 0, none⟩ = some (.string ⟨#[]⟩) := by unfold World.cell?; rw [k3]; rfl
      have c31 : w3.cell? ⟨A, 1, none⟩ = some (.int .i64 0) := by unfold World.cell?; rw [k3]; rfl
      have c41 : w4.cell? ⟨A, 1, none⟩ = some (.int .i64 0) := by unfold World.cell?; rw [k4]; rfl
      have c50 : w5.cell? ⟨A, 0, none⟩ = some (.string y.s) := by unfold World.cell?; rw [k5]; rfl
      have c51 : w5.cell? ⟨A, 1, none⟩ = some (.int .i64 y.n) := by unfold World.cell?; rw [k5]; rfl
      have f3 : ∀ n, w3.frozen? ⟨A, n, none⟩ = false := fun n => by unfold World.frozen?; rw [k3]; rfl
      have f4 : ∀ n, w4.frozen? ⟨A, n, none⟩ = false := fun n => by unfold World.frozen?; rw [k4]; rfl
      have mv5 := Mv.of_below hb5 K2 (fun _ => ts)
      have HD5 := hid (hd.mv mv5 id)
      have HM5 := hid (mv.trans (mv5.mono (T' := fun y => y = ts) (fun _ h => h.elim)))
      have HDR := hid (dropK_any HD5.out.sh y (HKO.out y (List.mem_of_getElem? hy)))
      have htk : G.take (j + 1) = G.take j ++ [y] := by rw [List.take_add_one, hy]; rfl
      have HTK : Hid (takesL P (G.take (j + 1)) = dropL (takesL P (G.take j)) y ∧ takesN P (G.take (j + 1)) = takesN P (G.take j) + (if hasK (takesL P (G.take j)) y then 1 else 0)) := by rw [htk]; exact ⟨takesL_snoc _ _ _, takesN_snoc _ _ _⟩
      have hle : takesN P (G.take j) ≤ 10000000 := Nat.le_trans (takesN_le _ _) (by simp; omega)
      obtain ⟨c, hc⟩ : ∃ c : Int, ((takesN P (G.take j) : Nat) : Int) = c := ⟨_, rfl⟩
      have hwc : wrap64 (c + 1) = c + 1 := by unfold wrap64; omega
      rw [hc]
      have HC := hid hc
      have HP2 := hid hp2
      clear hd mv hr hy htk hle hc hn hnl hp2 mv5 hb5 k3 k4 k5
      go_wp2_with fail
      refine HDR.out.mono ?_
      rintro _ w6 ⟨rfl, L6, hp6, hs6, hc6⟩
      obtain ⟨K6, ts6, mv6⟩ := HD5.out.chg hs6 hc6
      have HE6 : Hid (TS kdK K6 w6 ts p most m r L6 ∧ prs L6 = takesL P (G.take (j + 1)) ∧ Mv (fun y => y = ts) w1 w6 K1 K6) := by
        refine ⟨ts6, ?_, HM5.out.trans mv6⟩
        rw [hp6, HP2.out, HTK.out.1]
      have HN2 := hid HTK.out.2
      rw [HP2.out]
      clear hp6 hs6 hc6 ts6 mv6 HDR HD5 HM5
      unfold dropC
      cases hh : hasK (takesL P (G.take j)) y
      · rw [hh] at HN2
        have q1 : ((141 : Int) == 0) = false := by decide
        simp only [Bool.false_eq_true, if_false]
        clear hh
        go_wp2
        go_roundw
        case rel => exact ⟨j + 1, K6, L6, by first | (rw [hwr]; rfl) | rfl, hjn, by rw [HN2.out, ← HC.out]; rfl, HE6.out⟩
        case measure => first | exact meas hwr hj' | exact meas rfl hj'
      · rw [hh] at HN2
        simp only [if_true]
        clear hh
        go_wp2
        go_roundw
        case rel => exact ⟨j + 1, K6, L6, by first | (rw [hwr]; rfl) | rfl, hjn, by rw [HN2.out]; first | (rw [hwc, ← HC.out]; rfl) | (rw [← HC.out]; rfl), HE6.out⟩
        case measure => first | exact meas hwr hj' | exact meas rfl hj'
    · obtain rfl : j = n := by omega
      have htl : G.take j = G := List.take_of_length_le (by rw [HN.out]; exact Nat.le_refl _)
      rw [htl] at hp2 ⊢
      have HF := hid (And.intro hd (And.intro hp2 mv))
      clear hd mv hp2 htl
      go_wp2
      go_ret
      exact ⟨rfl, K1, w1, K2, L2, HE.out.1, HE.out.2, HF.out⟩
set_option maxHeartbeats 2000000 in
set_option maxRecDepth 8000 in
theorem prnK_any {a b : Nat} {w : World} {K : Nat → Nat} {p most m r ts τ σ : Nat} {L : List (Th KeyP Int)} (h : TS kdK K w ts p most m r L) (hστ : σ ≠ τ) (hσs : σ ≠ ts) (T : Nat → Prop) (hT : ¬ T τ) (hS : ¬ T σ) (Inv : Nat → (Nat → Nat) → World → Prop)
    (hmv : ∀ j K K' a b, Inv j K a → Mv (fun y => y = τ ∨ y = σ) a b K K' → Inv j K' b) (h0 : Inv 0 K w) (ans : Nat → Bool)
    (HK : ∀ j t K wk, L[j]? = some t → Inv j K wk → Calls Try.prog 61 #[keyV t.k, .int .i64 t.v, ptr a, ptr b] wk fun e w' => e = .returned (.bool (ans j)) ∧ ∃ K', Inv (j + 1) K' w' ∧ Mv T wk w' K K')
    (P : List Pr) (hP : ∀ K w, Inv L.length K w → ∃ L', prs L' = P ∧ TS kdK K w ts p most m r L') :
    Calls Try.prog 60 #[ptr p, .func (.func 61) #[] #[ptr a, ptr b]] w fun e w' => e = .returned (.int .i64 (takesN P (goneJ ans (L.map Th.k) L.length) : Nat)) ∧ ∃ K1 w1 K' L', Inv L.length K1 w1 ∧ Mv (fun y => (y = τ ∨ y = σ) ∨ T y) w w1 K K1 ∧ TS kdK K' w' ts p most m r L' ∧ prs L' = takesL P (goneJ ans (L.map Th.k) L.length) ∧ Mv (fun y => y = ts) w1 w' K1 K' := by
  have HU := hid (unwK_any (a := a) (b := b) h.sh (Nat.le_refl _) hστ T hT hS Inv hmv h0 ans HK)
  have HKO : Hid (∀ k ∈ goneJ ans (L.map Th.k) L.length, KOk k) := fun k hk => by
    obtain ⟨t, ht, rfl⟩ := List.mem_map.1 (gone_mem _ _ _ k hk)
    exact h.sh.ok t ht
  have HLN : Hid ((goneJ ans (L.map Th.k) L.length).length ≤ 1048576) := Nat.le_trans (gone_len _ _ _) (Nat.le_trans h.sh.len h.sh.m20)
  have HPP := hid (And.intro hP hσs)
  clear h hστ hT hS hmv h0 HK hP hσs
  generalize goneJ ans (L.map Th.k) L.length = G at *
  generalize L.length = nL at *
  go_enter Try.func60, Try.ntmps60
  go_wp2_with fail
  refine HU.out.mono ?_
  rintro _ w1 ⟨v, K1, rfl, hg, hinv, mv1⟩
  obtain ⟨L1, hL1, ts1⟩ := HPP.out.1 _ _ hinv
  obtain ⟨oa, cap, e1, _, hgg⟩ := hg.form
  subst e1
  obtain ⟨n, hn⟩ : ∃ n, G.length = n := ⟨_, rfl⟩
  have HG := hid hg
  have HGG := hid hgg
  have HE := hid (And.intro hinv mv1)
  have HT1 := hid (And.intro hL1 ts1)
  have HN := hid hn
  rw [hn]
  clear HU hg hgg hinv mv1 hL1 ts1 hn
  go_wp2_with fail
  go_loopw [5, 12] (fun u5 u12 wr => ∃ (j : Nat) (K2 : Nat → Nat) (L2 : List (Th KeyP Int)), u12 = .int .i64 j ∧ j ≤ n ∧ u5 = .int .i64 (takesN P (G.take j) : Nat) ∧ TS kdK K2 wr ts p most m r L2 ∧ prs L2 = takesL P (G.take j) ∧ Mv (fun y => y = ts) w1 wr K1 K2) (fun _ u12 _ => n - (intOf u12).toNat)
  case atStart => exact ⟨0, K1, L1, rfl, Nat.zero_le _, rfl, HT1.out.2, HT1.out.1, Mv.refl _ _ _⟩
  case round =>
    obtain ⟨j, K2, L2, rfl, hj, rfl, hd, hp2, mv⟩ := hrel
    by_cases hjn : j < n
    · have hj' : (j : Int) < (n : Int) := by omega
      have hj0 : (0 : Int) ≤ (j : Int) := by omega
      have hn := HN.out
      have hnl := HLN.out
      obtain ⟨y, hy⟩ : ∃ y, G[j]? = some y := ⟨_, List.getElem?_eq_getElem (by rw [hn]; exact hjn)⟩
      obtain ⟨g9, hg9⟩ := HGG.out (by omega)
      subst hg9
      have hr := HG.out.mv mv HPP.out.2
      rw [hn] at hr
      have t0 : wr.cell? ⟨g9, j * 2, none⟩ = some (.string y.s) := hr.cell kcL hn hy 0 (by omega)
      have t1 : wr.cell? ⟨g9, j * 2 + 1, none⟩ = some (.int .i64 y.n) := hr.cell kcL hn hy 1 (by omega)
      have hwr : wrap64 ((j : Int) + 1) = (j : Int) + 1 := by unfold wrap64; omega
      obtain ⟨A, hA⟩ : ∃ A, wr.heap.size = A := ⟨_, rfl⟩
      obtain ⟨w3, hw3⟩ : ∃ w3, wr.alloc (.cells #[.string ⟨#[]⟩, .int .i64 0] 32) = w3 := ⟨_, rfl⟩
      obtain ⟨w4, hw4⟩ : ∃ w4, w3.setCell ⟨A, 0, none⟩ (.string y.s) = w4 := ⟨_, rfl⟩
      obtain ⟨w5, hw5⟩ : ∃ w5, w4.setCell ⟨A, 1, none⟩ (.int .i64 y.n) = w5 := ⟨_, rfl⟩
      have k3 : w3.heap[A]? = some (.cells #[.string ⟨#[]⟩, .int .i64 0] 32) := by rw [← hw3, ← hA]; exact (MapKept.heap_alloc wr _).1
      have k4 : w4.heap[A]? = some (.cells #[.string y.s, .int .i64 0] 32) := by rw [← hw4]; unfold World.setCell; simp [Array.getElem?_modify, k3]
      have k5 : w5.heap[A]? = some (.cells #[.string y.s, .int .i64 y.n] 32) := by rw [← hw5]; unfold World.setCell; simp [Array.getElem?_modify, k4]
      have hb5 : Below wr.heap.size wr w5 := by
        have b0 : Below wr.heap.size wr w3 := by rw [← hw3]; exact (Below.refl _ _).alloc (Nat.le_refl _) _
        refine ⟨?_, ?_, ?_, ?_, fun b hb => ?_⟩
        · rw [← hw5, ← hw4]; exact b0.os
        · rw [← hw5, ← hw4]; exact b0.tape
        · rw [← hw5, ← hw4]; exact b0.output
        · rw [← hw5, ← hw4]; simpa [World.setCell] using b0.size
        · rw [← hw5, Below.heap_setCell _ _ _ _ (show b ≠ A by omega), ← hw4, Below.heap_setCell _ _ _ _ (show b ≠ A by omega)]; exact b0.block b hb
      have c30 : w3.cell? ⟨A, 0, none⟩ = some (.string ⟨#[]⟩) := by unfold World.cell?; rw [k3]; rfl
      have c31 : w3.cell? ⟨A, 1, none⟩ = some (.int .i64 0) := by unfold World.cell?; rw [k3]; rfl
      have c41 : w4.cell? ⟨A, 1, none⟩ = some (.int .i64 0) := by unfold World.cell?; rw [k4]; rfl
      have c50 : w5.cell? ⟨A, 0, none⟩ = some (.string y.s) := by unfold World.cell?; rw [k5]; rfl
      have c51 : w5.cell? ⟨A, 1, none⟩ = some (.int .i64 y.n) := by unfold World.cell?; rw [k5]; rfl
      have f3 : ∀ n, w3.frozen? ⟨A, n, none⟩ = false := fun n => by unfold World.frozen?; rw [k3]; rfl
      have f4 : ∀ n, w4.frozen? ⟨A, n, none⟩ = false := fun n => by unfold World.frozen?; rw [k4]; rfl
      have mv5 := Mv.of_below hb5 K2 (fun _ => ts)
      have HD5 := hid (hd.mv mv5 id)
      have HM5 := hid (mv.trans (mv5.mono (T' := fun y => y = ts) (fun _ h => h.elim)))
      have HDR := hid (dropK_any HD5.out.sh y (HKO.out y (List.mem_of_getElem? hy)))
      have htk : G.take (j + 1) = G.take j ++ [y] := by rw [List.take_add_one, hy]; rfl
      have HTK : Hid (takesL P (G.take (j + 1)) = dropL (takesL P (G.take j)) y ∧ takesN P (G.take (j + 1)) = takesN P (G.take j) + (if hasK (takesL P (G.take j)) y then 1 else 0)) := by rw [htk]; exact ⟨takesL_snoc _ _ _, takesN_snoc _ _ _⟩
      have hle : takesN P (G.take j) ≤ 10000000 := Nat.le_trans (takesN_le _ _) (by simp; omega)
      obtain ⟨c, hc⟩ : ∃ c : Int, ((takesN P (G.take j) : Nat) : Int) = c := ⟨_, rfl⟩
      have hwc : wrap64 (c + 1) = c + 1 := by unfold wrap64; omega
      rw [hc]
      have HC := hid hc
      have HP2 := hid hp2
      clear hd mv hr hy htk hle hc hn hnl hp2 mv5 hb5 k3 k4 k5
      go_wp2_with fail
      refine HDR.out.mono ?_
      rintro _ w6 ⟨rfl, L6, hp6, hs6, hc6⟩
      obtain ⟨K6, ts6, mv6⟩ := HD5.out.chg hs6 hc6
      have HE6 : Hid (TS kdK K6 w6 ts p most m r L6 ∧ prs L6 = takesL P (G.take (j + 1)) ∧ Mv (fun y => y = ts) w1 w6 K1 K6) := by
        refine ⟨ts6, ?_, HM5.out.trans mv6⟩
        rw [hp6, HP2.out, HTK.out.1]
      have HN2 := hid HTK.out.2
      rw [HP2.out]
      clear hp6 hs6 hc6 ts6 mv6 HDR HD5 HM5
      unfold dropC
      cases hh : hasK (takesL P (G.take j)) y
      · rw [hh] at HN2
        have q1 : ((141 : Int) == 0) = false := by decide
        simp only [Bool.false_eq_true, if_false]
        clear hh
        go_wp2
        go_roundw
        case rel => exact ⟨j + 1, K6, L6, by first | (rw [hwr]; rfl) | rfl, hjn, by rw [HN2.out, ← HC.out]; rfl, HE6.out⟩
        case measure => first | exact meas hwr hj' | exact meas rfl hj'
      · rw [hh] at HN2
        simp only [if_true]
        clear hh
        go_wp2
        go_roundw
        case rel => exact ⟨j + 1, K6, L6, by first | (rw [hwr]; rfl) | rfl, hjn, by rw [HN2.out]; first | (rw [hwc, ← HC.out]; rfl) | (rw [← HC.out]; rfl), HE6.out⟩
        case measure => first | exact meas hwr hj' | exact meas rfl hj'
    · obtain rfl : j = n := by omega
      have htl : G.take j = G := List.take_of_length_le (by rw [HN.out]; exact Nat.le_refl _)
      rw [htl] at hp2 ⊢
      have HF := hid (And.intro hd (And.intro hp2 mv))
      clear hd mv hp2 htl
      go_wp2
      go_ret
      exact ⟨rfl, K1, w1, K2, L2, HE.out.1, HE.out.2, HF.out⟩
end Go.Proofs.Ytkkamilmjaochaa
