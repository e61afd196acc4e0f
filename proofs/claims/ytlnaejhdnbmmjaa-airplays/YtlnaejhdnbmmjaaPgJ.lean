/- AirPlays: the walk. -/
import Derived.Test.YtlnaejhdnbmmjaaPgI
import Derived.Deep.RegionHeld3
namespace Go.Proofs.Ytlnaejhdnbmmjaa
open Go.RowKit
theorem step_any {K : Nat → Nat} {w : World} {B i p q bb n : Nat} {l : List Pk} {now : Int} (kd on m mn pf pt : Int) (pd : ByteArray) (hS : SB K w K w B i p q bb l now l now n) (hm : -9223372036854775808 ≤ m ∧ m ≤ 9223372036854775807) (hn : n ≤ 10000000000) (hnow : 0 ≤ now ∧ now ≤ 100000000000) :
    Calls Try.prog 10 #[.pointer (some ⟨bb, 0, none⟩), .pointer (some ⟨p, 0, none⟩), .pointer (some ⟨q, 0, none⟩), .agg #[.int .i64 kd, .int .i64 on, .int .i64 m, .int .i64 mn, .int .i64 pf, .int .i64 pt, .string pd]] w fun e w' => e = .returned (.bool true) ∧ StepP K w w' B i p q bb now n := by
  by_cases k1 : kd = 1
  · subst k1; exact step_send on m mn pf pt pd hS
  by_cases k2 : kd = 2
  · subst k2; exact step_dlv on m mn pf pt pd hS
  by_cases k3 : kd = 3
  · subst k3; exact step_drp on m mn pf pt pd hS
  by_cases k4 : kd = 4
  · subst k4; exact step_dbl on m mn pf pt pd hS
  by_cases k5 : kd = 5
  · subst k5; exact step_fly on m mn pf pt pd hS hn
  by_cases k6 : kd = 6
  · subst k6; exact step_tick on m mn pf pt pd hS hnow
  by_cases k7 : kd = 7
  · subst k7; exact step_last on m mn pf pt pd hS hm
  exact step_now kd on m mn pf pt pd hS (beq_eq_false_iff_ne.2 k1) (beq_eq_false_iff_ne.2 k2) (beq_eq_false_iff_ne.2 k3) (beq_eq_false_iff_ne.2 k4) (beq_eq_false_iff_ne.2 k5) (beq_eq_false_iff_ne.2 k6) (beq_eq_false_iff_ne.2 k7)
theorem Mv.refl (T : Nat → Prop) (w : World) (K : Nat → Nat) : Mv T w w K K := ⟨rfl, rfl, rfl, Nat.le_refl _, fun _ _ => rfl, fun _ _ _ => rfl⟩
/-- all that AirPlays has: two Airs of each kind, the book; R steps were made -/
structure AL (W w : World) (K : Nat → Nat) (P Q : Nat → Nat) (bb sa sx : Nat) (R : Int) : Prop where
  air : ∀ i, i < 2 → ∃ l now, AP K w W.heap.size i (P i) (Q i) l now l now ∧ 0 ≤ now ∧ now ≤ R
  bk : ∃ n vf vw FL WL, BK K w W.heap.size bb n n n vf vw FL WL ∧ (n : Int) ≤ 2 * R
  a : KB K w sa [.pointer (some ⟨P 0, 0, none⟩), .pointer (some ⟨P 1, 0, none⟩)] 25
  x : KB K w sx [.pointer (some ⟨Q 0, 0, none⟩), .pointer (some ⟨Q 1, 0, none⟩)] 28
  below : Below W.heap.size W w
  k0 : ∀ b, b < W.heap.size → K b = 0
  r : 0 ≤ R ∧ R ≤ 2200000000
section
variable {W w w' : World} {K : Nat → Nat} {P Q : Nat → Nat} {bb sa sx : Nat} {R : Int}
theorem AL.keep (h : AL W w K P Q bb sa sx R) (hB : Below w.heap.size w w') : ∃ K', AL W w' K' P Q bb sa sx R ∧ ∀ b, w.heap.size ≤ b → K' b = 0 := by
  have m := Mv.of_below hB K (fun _ => 0)
  have mb := m.below h.below h.k0 id
  obtain ⟨n, vf, vw, FL, WL, hb, hn⟩ := h.bk
  refine ⟨_, ⟨fun i hi => ?_, ⟨n, vf, vw, FL, WL, hb.mv m id id id id (fun _ => id), hn⟩, h.a.mv (i := 0) (m.mono (fun _ h => h.elim)), h.x.mv (i := 0) (m.mono (fun _ h => h.elim)), mb.1, mb.2, h.r⟩, fun b hb => ext_new hb⟩
  obtain ⟨l, now, h1, h2, h3⟩ := h.air i hi
  exact ⟨l, now, h1.mv m id id id, h2, h3⟩
theorem AL.step (h : AL W w K P Q bb sa sx R) {i : Nat} (hi : i < 2) (kd on m mn pf pt : Int) (pd : ByteArray) (hm : -9223372036854775808 ≤ m ∧ m ≤ 9223372036854775807) (hR : R + 1 ≤ 2200000000) :
    Calls Try.prog 10 #[.pointer (some ⟨bb, 0, none⟩), .pointer (some ⟨P i, 0, none⟩), .pointer (some ⟨Q i, 0, none⟩), .agg #[.int .i64 kd, .int .i64 on, .int .i64 m, .int .i64 mn, .int .i64 pf, .int .i64 pt, .string pd]] w fun e w' => e = .returned (.bool true) ∧ ∃ K', AL W w' K' P Q bb sa sx (R + 1) ∧ Mv (TS i) w w' K K' := by
  obtain ⟨n, vf, vw, FL, WL, hb, hn⟩ := h.bk
  obtain ⟨l, now, h1, h2, h3⟩ := h.air i hi
  have hr := h.r
  refine (step_any kd on m mn pf pt pd (n := n) (l := l) (now := now) ⟨h1, ⟨vf, vw, FL, WL, hb⟩, Mv.refl _ _ _, hi⟩ hm (by omega) (by omega)).mono ?_
  rintro e w' ⟨rfl, K', l', now', n', hS, hn1, hn2, hn3⟩
  have mb := hS.mv.below h.below h.k0 TS0
  obtain ⟨vf', vw', FL', WL', hb'⟩ := hS.bk
  refine ⟨rfl, K', ⟨fun j hj => ?_, ⟨n', vf', vw', FL', WL', hb', by omega⟩, h.a.mv hS.mv, h.x.mv hS.mv, mb.1, mb.2, by omega⟩, hS.mv⟩
  by_cases e : j = i
  · subst e
    exact ⟨l', now', hS.ap, by omega, by omega⟩
  · obtain ⟨l2, now2, g1, g2, g3⟩ := h.air j hj
    exact ⟨l2, now2, g1.mv hS.mv TS0 (by unfold TS; omega) (by unfold TS; omega), g2, by omega⟩
theorem AL.start {W w2 w3 w4 w5 w6 w7 w8 w9 : World} (hB2 : Below W.heap.size W w2) (hP3 : PA w3 w2.heap.size [] 0 none 0 0) (hB3 : Below w2.heap.size w2 w3) (hP4 : PA w4 w3.heap.size [] 0 none 0 0) (hB4 : Below w3.heap.size w3 w4)
    (hw5 : w4.alloc (.cells #[.pointer (some ⟨w2.heap.size, 0, none⟩), .pointer (some ⟨w3.heap.size, 0, none⟩)] 25) = w5) (hP6 : DA w6 W.heap.size w5.heap.size [] 0 (.slice none 0 0)) (hB6 : Below w5.heap.size w5 w6) (hP7 : DA w7 W.heap.size w6.heap.size [] 0 (.slice none 0 0)) (hB7 : Below w6.heap.size w6 w7)
    (hw8 : w7.alloc (.cells #[.pointer (some ⟨w5.heap.size, 0, none⟩), .pointer (some ⟨w6.heap.size, 0, none⟩)] 28) = w8) (hw9 : w8.alloc (.cells #[.slice none 0 0, .slice none 0 0, .slice none 0 0, .slice none 0 0, .slice none 0 0] 35) = w9) :
    ∃ P Q bb sa sx K, P 0 = w2.heap.size ∧ P 1 = w3.heap.size ∧ Q 0 = w5.heap.size ∧ Q 1 = w6.heap.size ∧ w8.heap.size = bb ∧ w4.heap.size = sa ∧ w7.heap.size = sx ∧ AL W w9 K P Q bb sa sx 0 := by
  have B5 : Below w4.heap.size w4 w5 := by rw [← hw5]; exact below_new _ _
  have B8 : Below w7.heap.size w7 w8 := by rw [← hw8]; exact below_new _ _
  have B9 : Below w8.heap.size w8 w9 := by rw [← hw9]; exact below_new _ _
  have k5 : Bk w5 w4.heap.size [.pointer (some ⟨w2.heap.size, 0, none⟩), .pointer (some ⟨w3.heap.size, 0, none⟩)] 25 := by rw [← hw5]; exact Bk.new w4 [.pointer (some ⟨w2.heap.size, 0, none⟩), .pointer (some ⟨w3.heap.size, 0, none⟩)] 25
  have k8 : Bk w8 w7.heap.size [.pointer (some ⟨w5.heap.size, 0, none⟩), .pointer (some ⟨w6.heap.size, 0, none⟩)] 28 := by rw [← hw8]; exact Bk.new w7 [.pointer (some ⟨w5.heap.size, 0, none⟩), .pointer (some ⟨w6.heap.size, 0, none⟩)] 28
  have k9 : w9.heap[w8.heap.size]? = some (.cells #[.slice none 0 0, .slice none 0 0, .slice none 0 0, .slice none 0 0, .slice none 0 0] 35 (0, 0)) := by rw [← hw9]; exact heap_alloc_new _ _
  have s2 := hB2.size
  have s3 := hP3.lt
  have s4 := hP4.lt
  have s5 := k5.lt
  have s6 := hP6.lt
  have s7 := hP7.lt
  have s8 := k8.lt
  have s9 := (Array.getElem?_eq_some_iff.1 k9).1
  have c79 : Below w7.heap.size w7 w9 := B8.trans (B9.mono (by omega))
  have c69 : Below w6.heap.size w6 w9 := hB7.trans (c79.mono (by omega))
  have c59 : Below w5.heap.size w5 w9 := hB6.trans (c69.mono (by omega))
  have c49 : Below w4.heap.size w4 w9 := B5.trans (c59.mono (by omega))
  have c39 : Below w3.heap.size w3 w9 := hB4.trans (c49.mono (by omega))
  have c29 : Below w2.heap.size w2 w9 := hB3.trans (c39.mono (by omega))
  have q3 := hP3.below c39
  have q4 := hP4.below c49
  have q6 := hP6.below c69
  have q7 := hP7.below c79
  have nil0 : ∀ {w : World} {g : Nat}, PkAt w g 0 [] := fun {w g} => ⟨fun i t h => by simp at h, fun i t h => by simp at h, fun i t h => by simp at h⟩
  obtain ⟨K, hK⟩ : ∃ K : Nat → Nat, ∀ b, K b = if b = w2.heap.size then 2 else if b = w3.heap.size then 3 else if b = w5.heap.size then 4 else if b = w6.heap.size then 5 else if b = w8.heap.size then 1 else 0 := ⟨_, fun _ => rfl⟩
  have K2 : K w2.heap.size = 2 := by rw [hK, if_pos rfl]
  have K3 : K w3.heap.size = 3 := by rw [hK, if_neg (by omega), if_pos rfl]
  have K5 : K w5.heap.size = 4 := by rw [hK, if_neg (by omega), if_neg (by omega), if_pos rfl]
  have K6 : K w6.heap.size = 5 := by rw [hK, if_neg (by omega), if_neg (by omega), if_neg (by omega), if_pos rfl]
  have K8 : K w8.heap.size = 1 := by rw [hK, if_neg (by omega), if_neg (by omega), if_neg (by omega), if_neg (by omega), if_pos rfl]
  have K4 : K w4.heap.size = 0 := by rw [hK, if_neg (by omega), if_neg (by omega), if_neg (by omega), if_neg (by omega), if_neg (by omega)]
  have K7 : K w7.heap.size = 0 := by rw [hK, if_neg (by omega), if_neg (by omega), if_neg (by omega), if_neg (by omega), if_neg (by omega)]
  refine ⟨fun i => if i = 0 then w2.heap.size else w3.heap.size, fun i => if i = 0 then w5.heap.size else w6.heap.size, w8.heap.size, w4.heap.size, w7.heap.size, K, rfl, rfl, rfl, rfl, rfl, rfl, rfl, fun i hi => ?_, ?_, ⟨k5.below c59 k5.lt, K4⟩, ⟨k8.below B9 k8.lt, K7⟩, hB2.trans (c29.mono s2), fun b hb => ?_, by omega⟩
  · refine ⟨[], 0, ?_, by omega, by omega⟩
    have hv : ∀ r, (Value.slice none 0 0).ownBlock = some r → K r = 4 + i := fun r e => by simp [Value.ownBlock] at e
    rcases (show i = 0 ∨ i = 1 by omega) with rfl | rfl
    · exact ⟨⟨none, 0, w4.heap.size, ⟨q3.blk, q3.lc, .inr ⟨rfl, rfl, rfl⟩, nil0, q3.most⟩, K4, by omega⟩, ⟨_, q6, hv⟩, K2, K5⟩
    · exact ⟨⟨none, 0, w4.heap.size, ⟨q4.blk, q4.lc, .inr ⟨rfl, rfl, rfl⟩, nil0, q4.most⟩, K4, by omega⟩, ⟨_, q7, hv⟩, K3, K6⟩
  · exact ⟨0, _, _, [], [], ⟨k9, K8, World.ownsRow_nil _ _ _ _, World.ownsRow_nil _ _ _ _, fun r e => by simp [Value.ownBlock] at e, fun r e => by simp [Value.ownBlock] at e, fun j hj => by omega, by omega⟩, by omega⟩
  · rw [hK, if_neg (by omega), if_neg (by omega), if_neg (by omega), if_neg (by omega), if_neg (by omega)]
theorem rounds_mono (O : Nat → OpR) (k len : Nat) (h : k ≤ len) : rounds O k ≤ rounds O len := by
  induction len with
  | zero => obtain rfl : k = 0 := by omega
            exact Int.le_refl _
  | succ n ih =>
    rcases Nat.eq_or_lt_of_le h with rfl | h1
    · exact Int.le_refl _
    · have := ih (by omega)
      have h2 := pick_range (O n).many 1101 (by omega)
      show rounds O k ≤ rounds O n + (pickP (O n).many 1101 + 1)
      omega
theorem AL.same (h : AL W w K P Q bb sa sx R) : AL W w.drew K P Q bb sa sx R := by
  have m : Mv (fun _ => False) w w.drew K K := ⟨rfl, rfl, rfl, Nat.le_refl _, fun _ _ => rfl, fun _ _ _ => rfl⟩
  have mb := m.below h.below h.k0 id
  obtain ⟨n, vf, vw, FL, WL, hb, hn⟩ := h.bk
  refine ⟨fun i hi => ?_, ⟨n, vf, vw, FL, WL, hb.mv m id id id id (fun _ => id), hn⟩, h.a.mv (i := 0) (m.mono (fun _ h => h.elim)), h.x.mv (i := 0) (m.mono (fun _ h => h.elim)), mb.1, mb.2, h.r⟩
  obtain ⟨l, now, h1, h2, h3⟩ := h.air i hi
  exact ⟨l, now, h1.mv m id id id, h2, h3⟩
theorem AL.ptr (h : AL W w K P Q bb sa sx R) {i : Nat} (hi : i < 2) : w.cell? ⟨sa, i, none⟩ = some (.pointer (some ⟨P i, 0, none⟩)) ∧ w.cell? ⟨sx, i, none⟩ = some (.pointer (some ⟨Q i, 0, none⟩)) := by
  rcases (show i = 0 ∨ i = 1 by omega) with rfl | rfl
  · exact ⟨h.a.1.cell 0 rfl, h.x.1.cell 0 rfl⟩
  · exact ⟨h.a.1.cell 1 rfl, h.x.1.cell 1 rfl⟩
end

set_option maxRecDepth 4000 in
set_option maxHeartbeats 8000000 in
theorem airPlays_any (oa : Option Addr) (b off len cap : Nat) (O : Nat → OpR) (W : World) (hoa : 0 < len → oa = some ⟨b, off, none⟩) (hO : OpsAt W b off len O) (hlen : (len : Int) ≤ 9223372036854775807) :
    Calls Try.prog 3 #[.slice oa len cap] W fun e w' => e = .returned (.bool true) ∧ Below W.heap.size W w' := by
  have H1 := hid (size_any oa b off len cap O W hoa hO hlen)
  go_enter Try.func3, Try.ntmps3
  go_wp2_with fail
  refine H1.out.mono ?_
  rintro e w1 ⟨s, rfl, hsz, hB1⟩
  clear H1
  by_cases hs : 2147483647 < s
  · have HB := hid hB1
    clear hB1 hsz
    go_wp2
    go_ret
    exact ⟨rfl, HB.out⟩
  have HSZ : Hid (rounds O len ≤ 2147483647) := by
    have := hsz (by omega)
    show rounds O len ≤ 2147483647
    omega
  have hs' : decide (2147483647 < s) = false := decide_eq_false hs
  have H2 := hid (awake_any w1)
  have HB1 := hid hB1
  clear hs hB1 hsz
  go_wp2_with fail
  clear hs'
  refine H2.out.mono ?_
  rintro e w2 ⟨rfl, hB2⟩
  have HB2 : Hid (Below W.heap.size W w2) := HB1.out.trans (hB2.mono HB1.out.size)
  have H3 := hid (new_any w2)
  clear hB2 H2
  go_wp2_with fail
  refine H3.out.mono ?_
  rintro e w3 ⟨rfl, hP3, hB3⟩
  have H4 := hid (new_any w3)
  have HP3 := hid (And.intro hP3 hB3)
  clear hP3 hB3 H3
  go_wp2_with fail
  refine H4.out.mono ?_
  rintro e w4 ⟨rfl, hP4, hB4⟩
  obtain ⟨w5, hw5⟩ : ∃ y, w4.alloc (.cells #[.pointer (some ⟨w2.heap.size, 0, none⟩), .pointer (some ⟨w3.heap.size, 0, none⟩)] 25) = y := ⟨_, rfl⟩
  have HP4 := hid (And.intro hP4 hB4)
  have HW5 := hid hw5
  have H5 := hid (dnew_any w5 W.heap.size (by
    have := HB2.out.size
    have := HP3.out.2.size
    have := hB4.size
    have : w4.heap.size ≤ w5.heap.size := by rw [← hw5]; exact (below_new _ _).size
    omega))
  clear hP4 hB4 H4
  go_wp2_with fail
  clear hw5
  refine H5.out.mono ?_
  rintro e w6 ⟨rfl, hP6, hB6⟩
  have H6 := hid (dnew_any w6 W.heap.size (Nat.le_trans hP6.hB (Nat.le_refl _)))
  have HP6 := hid (And.intro hP6 hB6)
  clear hP6 hB6 H5
  go_wp2_with fail
  refine H6.out.mono ?_
  rintro e w7 ⟨rfl, hP7, hB7⟩
  obtain ⟨w8, hw8⟩ : ∃ y, w7.alloc (.cells #[.pointer (some ⟨w5.heap.size, 0, none⟩), .pointer (some ⟨w6.heap.size, 0, none⟩)] 28) = y := ⟨_, rfl⟩
  obtain ⟨w9, hw9⟩ : ∃ y, w8.alloc (.cells #[.slice none 0 0, .slice none 0 0, .slice none 0 0, .slice none 0 0, .slice none 0 0] 35) = y := ⟨_, rfl⟩
  obtain ⟨P, Q, bb, sa, sx, K, hP0, hP1, hQ0, hQ1, hbb, hsa, hsx, hAL⟩ : ∃ P Q bb sa sx K, P 0 = w2.heap.size ∧ P 1 = w3.heap.size ∧ Q 0 = w5.heap.size ∧ Q 1 = w6.heap.size ∧ w8.heap.size = bb ∧ w4.heap.size = sa ∧ w7.heap.size = sx ∧ AL W w9 K P Q bb sa sx 0 :=
    AL.start HB2.out HP3.out.1 HP3.out.2 HP4.out.1 HP4.out.2 HW5.out HP6.out.1 HP6.out.2 hP7 hB7 hw8 hw9
  have HA := hid hAL
  have HO := hid hO
  have y0 := hAL.a.1.cell 0 rfl
  have y1 := hAL.a.1.cell 1 rfl
  clear hP7 hB7 hAL hO H6 HP3 HP4 HP6 HW5 HB1 HB2
  go_wp2_with fail
  clear hw8 hw9 y0 y1 hP0 hP1 hQ0 hQ1 hbb hsa hsx
  go_loopw [7] (fun iv wr => ∃ (k : Nat) (K' : Nat → Nat) (R : Int), iv = .int .i64 k ∧ k ≤ len ∧ Hid (AL W wr K' P Q bb sa sx R ∧ R ≤ rounds O k)) (fun iv _ => len - (intOf iv).toNat)
  case atStart => exact ⟨0, K, 0, rfl, by omega, HA.out, Int.le_refl _⟩
  case round =>
    obtain ⟨k, K1, R, rfl, hk, HI⟩ := hrel
    obtain ⟨wo, hwo⟩ : ∃ y, y = wr := ⟨_, rfl⟩
    rw [← hwo] at HI ⊢
    clear hwo HA
    by_cases hlt : k < len
    · as_aux_lemma =>
      have hoa' := hoa (by omega)
      subst hoa'
      have hk' : (k : Int) < (len : Int) := by omega
      have hOr := HO.out.below HI.out.1.below
      have c0 := hOr.c0 k hlt
      have c1 := hOr.c1 k hlt
      have c2 := hOr.c2 k hlt
      have c3 := hOr.c3 k hlt
      have c4 := hOr.c4 k hlt
      have c5 := hOr.c5 k hlt
      have c6 := hOr.c6 k hlt
      have hor := hOr.on k hlt
      have hnr := hOr.n k hlt
      have hmr := hOr.many k hlt
      have HRR : Hid (rounds O (k + 1) = rounds O k + (pickP (O k).many 1101 + 1) ∧ rounds O (k + 1) ≤ 2147483647) := ⟨rfl, Int.le_trans (rounds_mono O (k + 1) len (by omega)) HSZ.out⟩
      obtain ⟨o, ho⟩ : ∃ o, O k = o := ⟨_, rfl⟩
      rw [ho] at c0 c1 c2 c3 c4 c5 c6 hor hnr hmr HRR
      obtain ⟨kd, on, m, mn, pf, pt, pd⟩ := o
      simp only at c0 c1 c2 c3 c4 c5 c6 hor hnr hmr HRR
      have hpi := pick_range on 2 (by omega)
      obtain ⟨i, hi⟩ : ∃ i : Nat, pickP on 2 = (i : Int) := ⟨(pickP on 2).toNat, by omega⟩
      have hi2 : i < 2 := by omega
      have H9a : Hid (∀ w, Calls Try.prog 9 #[.int .i64 on, .int .i64 2] w fun e w' => e = .returned (.int .i64 (i : Int)) ∧ w' = w) := fun w => by
        rw [← hi]; exact pick_any _ _ w hor.1 hor.2 (by omega) (by omega)
      have hpm := pick_range mn 1101 (by omega)
      obtain ⟨M, hM⟩ : ∃ M : Nat, pickP mn 1101 = (M : Int) := ⟨(pickP mn 1101).toNat, by omega⟩
      have H9b : Hid (∀ w, Calls Try.prog 9 #[.int .i64 mn, .int .i64 1101] w fun e w' => e = .returned (.int .i64 (M : Int)) ∧ w' = w) := fun w => by
        rw [← hM]; exact pick_any _ _ w hmr.1 hmr.2 (by omega) (by omega)
      rw [hM] at HRR hpm
      have HMM := hid hpm
      have HNR := hid hnr
      obtain ⟨w4, hw4⟩ : ∃ x, wo.alloc (.cells #[.int .i64 kd, .int .i64 on, .int .i64 m, .int .i64 mn, .int .i64 pf, .int .i64 pt, .string pd] 39) = x := ⟨_, rfl⟩
      have B4 : Below wo.heap.size wo w4 := by rw [← hw4]; exact below_new _ _
      have hk4 : Bk w4 wo.heap.size [.int .i64 kd, .int .i64 on, .int .i64 m, .int .i64 mn, .int .i64 pf, .int .i64 pt, .string pd] 39 := by rw [← hw4]; exact Bk.new wo [.int .i64 kd, .int .i64 on, .int .i64 m, .int .i64 mn, .int .i64 pf, .int .i64 pt, .string pd] 39
      obtain ⟨K2, hA2, hz2⟩ := HI.out.1.keep B4
      have HI2 : Hid (AL W w4 K2 P Q bb sa sx R ∧ KB K2 w4 wo.heap.size [.int .i64 kd, .int .i64 on, .int .i64 m, .int .i64 mn, .int .i64 pf, .int .i64 pt, .string pd] 39) := ⟨hA2, hk4, hz2 _ (Nat.le_refl _)⟩
      have d1 := hk4.cell 1 rfl
      obtain ⟨ob, hob⟩ : ∃ b, wo.heap.size = b := ⟨_, rfl⟩
      have HR0 := hid HI.out.2
      rw [hob] at HI2 d1
      clear hOr ho hpi hi hM hpm B4 hk4 hA2 hz2 HI hmr hnr hor hk
      go_wp2_with (first | (go_at_call 9; refine (H9a.out _).mono ?_; rintro e w' ⟨rfl, hw'⟩; have hw2 := hw'.symm; clear hw'; subst hw2))
      clear hw4 hob c0 c1 c2 c3 c4 c5 c6 d1
      go_loopw [10] (fun nv wr3 => ∃ (t : Nat) (K3 : Nat → Nat), nv = .int .i64 t ∧ t ≤ M + 1 ∧ Hid (AL W wr3 K3 P Q bb sa sx (R + (t : Int)) ∧ KB K3 wr3 ob [.int .i64 kd, .int .i64 on, .int .i64 m, .int .i64 mn, .int .i64 pf, .int .i64 pt, .string pd] 39)) (fun nv _ => M + 1 - (intOf nv).toNat)
      case atStart => exact ⟨0, _, rfl, by omega, by have := HI2.out; rw [show R + ((0 : Nat) : Int) = R by omega]; exact this⟩
      case round =>
        obtain ⟨t, K3, rfl, ht, HT⟩ := hrel
        obtain ⟨wp, hwp⟩ : ∃ y, y = wr := ⟨_, rfl⟩
        rw [← hwp] at HT ⊢
        clear hwp
        have d3 := HT.out.2.1.cell 3 rfl
        by_cases htM : t ≤ M
        · have htd : decide ((t : Int) ≤ (M : Int)) = true := decide_eq_true (by omega)
          have hMi : (M : Int) ≤ 1000000 := by have := HMM.out; omega
          have e0 := HT.out.2.1.cell 0 rfl
          have e1 := HT.out.2.1.cell 1 rfl
          have e2 := HT.out.2.1.cell 2 rfl
          have e4 := HT.out.2.1.cell 4 rfl
          have e5 := HT.out.2.1.cell 5 rfl
          have e6 := HT.out.2.1.cell 6 rfl
          have p0 := (HT.out.1.ptr hi2).1
          have p1 := (HT.out.1.ptr hi2).2
          have HX : Hid (∀ (w' : World) (K4 : Nat → Nat), Mv (TS i) wp w' K3 K4 → w'.cell? ⟨sa, i, none⟩ = some (.pointer (some ⟨P i, 0, none⟩)) ∧ w'.cell? ⟨sx, i, none⟩ = some (.pointer (some ⟨Q i, 0, none⟩)) ∧ w'.cell? ⟨ob, 0, none⟩ = some (.int .i64 kd) ∧ w'.cell? ⟨ob, 1, none⟩ = some (.int .i64 on) ∧ w'.cell? ⟨ob, 2, none⟩ = some (.int .i64 m) ∧ w'.cell? ⟨ob, 3, none⟩ = some (.int .i64 mn) ∧ w'.cell? ⟨ob, 4, none⟩ = some (.int .i64 pf) ∧ w'.cell? ⟨ob, 5, none⟩ = some (.int .i64 pt) ∧ w'.cell? ⟨ob, 6, none⟩ = some (.string pd)) := fun w' K4 mv => by
            have ho := HT.out.2.mv mv
            have ha := HT.out.1.a.mv mv
            have hx := HT.out.1.x.mv mv
            refine ⟨?_, ?_, ho.1.cell 0 rfl, ho.1.cell 1 rfl, ho.1.cell 2 rfl, ho.1.cell 3 rfl, ho.1.cell 4 rfl, ho.1.cell 5 rfl, ho.1.cell 6 rfl⟩
            · rcases (show i = 0 ∨ i = 1 by omega) with rfl | rfl
              · exact ha.1.cell 0 rfl
              · exact ha.1.cell 1 rfl
            · rcases (show i = 0 ∨ i = 1 by omega) with rfl | rfl
              · exact hx.1.cell 0 rfl
              · exact hx.1.cell 1 rfl
          have s1 := HX.out wp.drew K3 ⟨rfl, rfl, rfl, Nat.le_refl _, fun _ _ => rfl, fun _ _ _ => rfl⟩
          have hA3 : AL W wp.drew K3 P Q bb sa sx (R + (t : Int)) := HT.out.1.same
          have HC := hid (hA3.step hi2 kd on m mn pf pt pd HNR.out (by have := HRR.out.1; have := HRR.out.2; have := HR0.out; omega))
          have HKB := hid HT.out.2
          have hii : (i : Int) < 2 := by omega
          have hi0 : (0 : Int) ≤ (i : Int) := by omega
          clear hA3 HT HI2
          go_wp2_with (first | (go_at_call 9; refine (H9b.out _).mono ?_; rintro e w' ⟨rfl, hw'⟩; have hw2 := hw'.symm; clear hw'; subst hw2))
          clear d3 e0 e1 e2 e4 e5 e6 p0 p1 htd
          go_region_held3 (fun w' => w'.cell? ⟨sa, i, none⟩ = some (.pointer (some ⟨P i, 0, none⟩)) ∧ w'.cell? ⟨sx, i, none⟩ = some (.pointer (some ⟨Q i, 0, none⟩)) ∧ w'.cell? ⟨ob, 0, none⟩ = some (.int .i64 kd) ∧ w'.cell? ⟨ob, 1, none⟩ = some (.int .i64 on) ∧ w'.cell? ⟨ob, 2, none⟩ = some (.int .i64 m) ∧ w'.cell? ⟨ob, 3, none⟩ = some (.int .i64 mn) ∧ w'.cell? ⟨ob, 4, none⟩ = some (.int .i64 pf) ∧ w'.cell? ⟨ob, 5, none⟩ = some (.int .i64 pt) ∧ w'.cell? ⟨ob, 6, none⟩ = some (.string pd)) (first | with_reducible exact s1 | with_reducible exact s2) (first
            | (go_at_call 10
               with_reducible refine HC.out.mono ?_
               rintro e w5 ⟨rfl, K5, hA5, m5⟩
               have m5' : Mv (TS i) wp w5 K3 K5 := ⟨m5.os, m5.tape, m5.output, m5.size, m5.old, m5.kept⟩
               have s2 := HX.out w5 K5 m5'
               have HE : Hid (AL W w5 K5 P Q bb sa sx (R + (t : Int) + 1) ∧ KB K5 w5 ob [.int .i64 kd, .int .i64 on, .int .i64 m, .int .i64 mn, .int .i64 pf, .int .i64 pt, .string pd] 39) := ⟨hA5, HKB.out.mv m5'⟩
               clear hA5 m5 m5')
            | fail)
          all_goals (
            clear s1 s2
            go_wp2
            go_roundw
            case rel => exact ⟨t + 1, K5, by go_num, by omega, by rw [show R + ((t + 1 : Nat) : Int) = R + (t : Int) + 1 by omega]; exact HE.out⟩
            case measure => simp [intOf]; omega)
        · obtain rfl : t = M + 1 := by omega
          have htd : decide (((M + 1 : Nat) : Int) ≤ (M : Int)) = false := decide_eq_false (by omega)
          have HE : Hid (AL W wp K3 P Q bb sa sx (R + ((M + 1 : Nat) : Int)) ∧ R + ((M + 1 : Nat) : Int) ≤ rounds O (k + 1)) := ⟨HT.out.1, by have := HRR.out.1; have := HR0.out; omega⟩
          clear HT HI2
          go_wp2_with (first | (go_at_call 9; refine (H9b.out _).mono ?_; rintro e w' ⟨rfl, hw'⟩; have hw2 := hw'.symm; clear hw'; subst hw2))
          go_roundw
          case rel => exact ⟨k + 1, K3, _, by go_num, by omega, HE.out⟩
          case measure => simp [intOf]; omega
    · obtain rfl : k = len := by omega
      have HI2 : Hid (AL W wo K1 P Q bb sa sx R ∧ R ≤ 2147483647) := ⟨HI.out.1, Int.le_trans HI.out.2 HSZ.out⟩
      clear HI HO hoa
      go_wp2_with fail
      go_loopw [12] (fun nv wr3 => ∃ (i : Nat) (K3 : Nat → Nat), nv = .int .i64 i ∧ i ≤ 2 ∧ Hid (AL W wr3 K3 P Q bb sa sx (R + (i : Int)))) (fun nv _ => 2 - (intOf nv).toNat)
      case atStart => exact ⟨0, _, rfl, by omega, by have := HI2.out.1; rw [show R + ((0 : Nat) : Int) = R by omega]; exact this⟩
      case round =>
        obtain ⟨i, K3, rfl, hi, HT⟩ := hrel
        obtain ⟨wp, hwp⟩ : ∃ y, y = wr := ⟨_, rfl⟩
        rw [← hwp] at HT ⊢
        clear hwp
        by_cases hi2 : i < 2
        · as_aux_lemma =>
          have hii : (i : Int) < 2 := by omega
          have hi0 : (0 : Int) ≤ (i : Int) := by omega
          have HX : Hid (∀ (w' : World) (K4 : Nat → Nat), Mv (TS i) wp w' K3 K4 → w'.cell? ⟨sa, i, none⟩ = some (.pointer (some ⟨P i, 0, none⟩)) ∧ w'.cell? ⟨sx, i, none⟩ = some (.pointer (some ⟨Q i, 0, none⟩))) := fun w' K4 mv => by
            have ha := HT.out.a.mv mv
            have hx := HT.out.x.mv mv
            rcases (show i = 0 ∨ i = 1 by omega) with rfl | rfl
            · exact ⟨ha.1.cell 0 rfl, hx.1.cell 0 rfl⟩
            · exact ⟨ha.1.cell 1 rfl, hx.1.cell 1 rfl⟩
          have s1 := HX.out wp.drew K3 ⟨rfl, rfl, rfl, Nat.le_refl _, fun _ _ => rfl, fun _ _ _ => rfl⟩
          have HC := hid (HT.out.same.step hi2 5 0 0 0 0 0 ⟨#[]⟩ (by omega) (by have := HI2.out.2; omega))
          clear HT
          go_wp2_with fail
          go_region_held3 (fun w' => w'.cell? ⟨sa, i, none⟩ = some (.pointer (some ⟨P i, 0, none⟩)) ∧ w'.cell? ⟨sx, i, none⟩ = some (.pointer (some ⟨Q i, 0, none⟩))) (first | with_reducible exact s1 | with_reducible exact s2) (first
            | (go_at_call 10
               with_reducible refine HC.out.mono ?_
               rintro e w5 ⟨rfl, K5, hA5, m5⟩
               have m5' : Mv (TS i) wp w5 K3 K5 := ⟨m5.os, m5.tape, m5.output, m5.size, m5.old, m5.kept⟩
               have s2 := HX.out w5 K5 m5'
               have HE := hid hA5
               clear hA5 m5 m5')
            | fail)
          all_goals (
            clear s1 s2
            go_wp2
            go_roundw
            case rel => exact ⟨i + 1, K5, by go_num, by omega, by rw [show R + ((i + 1 : Nat) : Int) = R + (i : Int) + 1 by omega]; exact HE.out⟩
            case measure => simp [intOf]; omega)
        · obtain rfl : i = 2 := by omega
          rw [show ((2 : Nat) : Int) = 2 from rfl]
          obtain ⟨n, vf, vw, FL, WL, hb, hn⟩ := HT.out.bk
          have HC := hid (still_any hb (by have := HT.out.r; omega))
          have HF : Hid (∀ w' K4, Mv (fun t => t ≠ 0) wp w' K3 K4 → Below W.heap.size W w') := fun w' K4 mv => (mv.below HT.out.below HT.out.k0 (by omega)).1
          clear hb hn HT HI2
          go_wp2_with fail
          refine HC.out.mono ?_
          rintro e w5 ⟨rfl, K5, m5⟩
          have HE := hid (HF.out _ _ m5)
          clear m5
          go_wp2
          go_ret
          exact ⟨rfl, HE.out⟩
end Go.Proofs.Ytlnaejhdnbmmjaa
