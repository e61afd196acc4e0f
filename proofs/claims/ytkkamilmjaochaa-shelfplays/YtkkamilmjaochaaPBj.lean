/- ShelfPlays: the program's unwanted, with a keep that may call the shelf. -/
import Derived.Test.YtkkamilmjaochaaPBi
import Derived.Test.YtkkamilmjaochaaPVk
namespace Go.Proofs.Ytkkamilmjaochaa
open Go.RowKit
def vC1 (v : Int) : List Value := [.int .i64 v]
theorem vCL (v : Int) : (vC1 v).length = 1 := rfl
theorem vcs_is (l : List Int) : vcsK l = l.flatMap vC1 := rfl
/-- whom the keep did not want, of the first j -/
def goneJ (ans : Nat → Bool) (l : List KeyP) : Nat → List KeyP
  | 0 => []
  | j + 1 => goneJ ans l j ++ (if ans j then [] else (l[j]?).toList)
theorem gone_len (ans : Nat → Bool) (l : List KeyP) : ∀ j, (goneJ ans l j).length ≤ j
  | 0 => Nat.le_refl _
  | j + 1 => by
    have := gone_len ans l j
    unfold goneJ
    rw [List.length_append]
    split
    · simp; omega
    · cases l[j]? <;> simp <;> omega
set_option maxHeartbeats 2000000 in
set_option maxRecDepth 8000 in
theorem unwW_any {w : World} {K : Nat → Nat} {p most m r B τ σ : Nat} {L : List (Th KeyP Int)} (h : SH kdK w p most m r L) (hB : B ≤ w.heap.size) (hστ : σ ≠ τ) (T : Nat → Prop) (hT : ¬ T τ) (hS : ¬ T σ) (Inv : Nat → (Nat → Nat) → World → Prop)
    (hmv : ∀ j K K' a b, Inv j K a → Mv (fun y => y = τ ∨ y = σ) a b K K' → Inv j K' b) (h0 : Inv 0 K w) (ans : Nat → Bool)
    (HK : ∀ j t K wk, L[j]? = some t → Inv j K wk → Calls Try.prog 69 #[keyV t.k, .int .i64 t.v] wk fun e w' => e = .returned (.bool (ans j)) ∧ ∃ K', Inv (j + 1) K' w' ∧ Mv T wk w' K K') :
    Calls Try.prog 67 #[ptr p, .func (.func 69) #[] #[]] w fun e w' => ∃ v K', e = .returned v ∧ RW 32 2 kcK K' w' B σ v (goneJ ans (L.map Th.k) L.length) ∧ Inv L.length K' w' ∧ Mv (fun y => (y = τ ∨ y = σ) ∨ T y) w w' K K' := by
  obtain ⟨n, hn⟩ : ∃ n, L.length = n := ⟨_, rfl⟩
  have HH := hid h
  have HN := hid (And.intro hn (And.intro hB (Nat.le_trans h.len h.m20)))
  have HI := hid (And.intro h0 (And.intro hmv (And.intro HK (And.intro hT (And.intro hS hστ)))))
  rw [hn]
  clear h hB h0 hmv HK hn hT hS hστ
  go_enter Try.func67, Try.ntmps67
  go_wp2_with fail
  refine (keysK_any HH.out).mono ?_
  rintro _ w1 ⟨g, cap, rfl, k1, c1⟩
  have H1 := hid (And.intro k1 c1)
  clear k1 c1
  go_wp2_with fail
  refine (valsK_any (HH.out.below H1.out.2)).mono ?_
  rintro _ w2 ⟨g2, cap2, rfl, k2, c2⟩
  have H2 : Hid (RW 32 2 kcK (ext w K (fun _ => τ)) w2 B τ (.slice (some ⟨g, 0, none⟩) n cap) (L.map Th.k) ∧ RW 3 1 vC1 (ext w K (fun _ => τ)) w2 B τ (.slice (some ⟨g2, 0, none⟩) n cap2) (L.map Th.v) ∧ Mv (fun y => y = τ) w w2 K (ext w K (fun _ => τ))) := by
    have hb2 := H1.out.2.trans (c2.mono H1.out.2.size)
    have o1 := own_mono (own_block H1.out.1 (fun x hx => c2.block x (H1.out.1.lt x hx).2)) HN.out.2.1
    have o2 := own_mono k2 (Nat.le_trans HN.out.2.1 H1.out.2.size)
    rw [HN.out.1] at o1 o2
    refine ⟨⟨by rw [List.length_map, HN.out.1]; exact o1, fun x hx => ext_new (H1.out.1.lt x (by rw [HN.out.1]; exact hx)).1⟩, ⟨by rw [List.length_map, HN.out.1, ← vcs_is]; exact o2, fun x hx => ext_new (Nat.le_trans H1.out.2.size (k2.lt x (by rw [HN.out.1]; exact hx)).1)⟩, (Mv.of_below hb2 K (fun _ => τ)).mono (fun _ h => h.elim)⟩
  rw [HN.out.1]
  clear H1 k2 c2
  go_wp2_with fail
  go_loopw [7, 16] (fun u7 u16 wr => ∃ (j : Nat) (K1 : Nat → Nat), u16 = .int .i64 j ∧ j ≤ n ∧ Inv j K1 wr ∧ RW 32 2 kcK K1 wr B σ u7 (goneJ ans (L.map Th.k) j) ∧ RW 32 2 kcK K1 wr B τ (.slice (some ⟨g, 0, none⟩) n cap) (L.map Th.k) ∧ RW 3 1 vC1 K1 wr B τ (.slice (some ⟨g2, 0, none⟩) n cap2) (L.map Th.v) ∧ Mv (fun y => (y = τ ∨ y = σ) ∨ T y) w wr K K1) (fun _ u16 _ => n - (intOf u16).toNat)
  case atStart =>
    obtain ⟨a1, a2, a3⟩ := H2.out
    exact ⟨0, _, rfl, Nat.zero_le _, HI.out.2.1 _ _ _ _ _ HI.out.1 (a3.mono (fun _ h => .inl h)), RW.nil _ _ _ _ _ _ _, a1, a2, a3.mono (fun _ h => .inl (.inl h))⟩
  case round =>
    obtain ⟨j, K1, rfl, hj, hinv, hgo, hks, hvs, mv⟩ := hrel
    obtain ⟨wo, hwo⟩ : ∃ wo, wo = wr := ⟨_, rfl⟩
    subst hwo
    obtain ⟨oa7, c7, e7, _, hg7⟩ := hgo.form
    by_cases hjn : j < n
    · have hj' : (j : Int) < (n : Int) := by omega
      have hj0 : (0 : Int) ≤ (j : Int) := by omega
      have hwr : wrap64 ((j : Int) + 1) = (j : Int) + 1 := by have := HN.out; unfold wrap64; omega
      have hjL : j < L.length := by rw [HN.out.1]; exact hjn
      obtain ⟨t, ht⟩ : ∃ t, L[j]? = some t := ⟨_, List.getElem?_eq_getElem hjL⟩
      have hlk : (L.map Th.k).length = n := by rw [List.length_map]; exact HN.out.1
      have hlv : (L.map Th.v).length = n := by rw [List.length_map]; exact HN.out.1
      have htk : (L.map Th.k)[j]? = some t.k := by rw [List.getElem?_map, ht]; rfl
      have htv : (L.map Th.v)[j]? = some t.v := by rw [List.getElem?_map, ht]; rfl
      have t0 : wo.cell? ⟨g, j * 2, none⟩ = some (.string t.k.s) := hks.cell kcL hlk htk 0 (by omega)
      have t1 : wo.cell? ⟨g, j * 2 + 1, none⟩ = some (.int .i64 t.k.n) := hks.cell kcL hlk htk 1 (by omega)
      obtain ⟨A, hA⟩ : ∃ A, wo.heap.size = A := ⟨_, rfl⟩
      obtain ⟨w3, hw3⟩ : ∃ w3, wo.alloc (.cells #[.string ⟨#[]⟩, .int .i64 0] 32) = w3 := ⟨_, rfl⟩
      obtain ⟨w4, hw4⟩ : ∃ w4, w3.setCell ⟨A, 0, none⟩ (.string t.k.s) = w4 := ⟨_, rfl⟩
      obtain ⟨w5, hw5⟩ : ∃ w5, w4.setCell ⟨A, 1, none⟩ (.int .i64 t.k.n) = w5 := ⟨_, rfl⟩
      obtain ⟨K3, hK3⟩ : ∃ K3, ext wo K1 (fun _ => τ) = K3 := ⟨_, rfl⟩
      have b3 : TB K3 w3 τ A (.cells #[.string ⟨#[]⟩, .int .i64 0] 32) := by
        have := TB.new wo K1 (fun _ => τ) (.cells #[.string ⟨#[]⟩, .int .i64 0] 32) (t := τ) rfl
        rw [hw3, hA, hK3] at this
        exact this
      have m3 : Mv (fun y => y = τ) wo w3 K1 K3 := by rw [← hw3, ← hK3]; exact (Mv.alloc wo K1 (fun _ => τ) _).mono (fun _ h => h.elim)
      have b4 : TB K3 w4 τ A (.cells #[.string t.k.s, .int .i64 0] 32) := ⟨by rw [← hw4]; unfold World.setCell; simp [Array.getElem?_modify, b3.at_], b3.k⟩
      have m4 : Mv (fun y => y = τ) w3 w4 K3 K3 := by rw [← hw4]; exact Mv.of_set w3 K3 ⟨A, 0, none⟩ _ b3.k
      have b5 : TB K3 w5 τ A (.cells #[.string t.k.s, .int .i64 t.k.n] 32) := ⟨by rw [← hw5]; unfold World.setCell; simp [Array.getElem?_modify, b4.at_], b4.k⟩
      have m5 : Mv (fun y => y = τ) w4 w5 K3 K3 := by rw [← hw5]; exact Mv.of_set w4 K3 ⟨A, 1, none⟩ _ b4.k
      have mA := (m3.trans m4).trans m5
      have keep : ∀ x, (x = g ∨ x = g2 ∨ (∀ z, oa7 = some z → x = z.block → True) ∧ x < wo.heap.size) → x < wo.heap.size → w5.heap[x]? = wo.heap[x]? := fun x _ hx => by
        have hne : x ≠ A := by omega
        rw [← hw5, Below.heap_setCell _ _ _ _ hne, ← hw4, Below.heap_setCell _ _ _ _ hne, ← hw3]
        exact Below.heap_alloc _ _ _ hx
      have rwk : ∀ {α : Type} {e sz s : Nat} {cf : α → List Value} {vv : Value} {l : List α}, RW e sz cf K1 wo B s vv l → RW e sz cf K3 w5 B s vv l := fun {α e sz s cf vv l} hrow =>
        ⟨own_block hrow.own (fun x hx => keep x (.inr (.inr ⟨fun _ _ _ => trivial, (hrow.own.lt x hx).2⟩)) (hrow.own.lt x hx).2), fun x hx => (mA.old x (hrow.own.lt x hx).2).trans (hrow.k x hx)⟩
      have HP5 : Hid (Inv j K3 w5.drew ∧ RW 32 2 kcK K3 w5.drew B σ u7 (goneJ ans (L.map Th.k) j) ∧ RW 32 2 kcK K3 w5.drew B τ (.slice (some ⟨g, 0, none⟩) n cap) (L.map Th.k) ∧ RW 3 1 vC1 K3 w5.drew B τ (.slice (some ⟨g2, 0, none⟩) n cap2) (L.map Th.v) ∧ Mv (fun y => (y = τ ∨ y = σ) ∨ T y) w w5.drew K K3 ∧ TB K3 w5.drew τ A (.cells #[.string t.k.s, .int .i64 t.k.n] 32)) := by
        have md : Mv (fun _ => False) w5 w5.drew K3 K3 := Mv.drew _ _ _
        exact ⟨HI.out.2.1 _ _ _ _ _ hinv ((mA.trans (Mv.drew _ _ _)).mono (fun _ h => .inl h)), (rwk hgo).mv md id, (rwk hks).mv md id, (rwk hvs).mv md id, mv.trans ((mA.trans (Mv.drew _ _ _)).mono (fun _ h => .inl (.inl h))), b5.mv md id⟩
      have HCK := hid (HI.out.2.2.1 j t K3 _ ht HP5.out.1)
      have v5 : w5.cell? ⟨g2, j, none⟩ = some (.int .i64 t.v) := by
        have := (rwk hvs).cell vCL hlv htv 0 (by omega)
        rw [Nat.mul_one, Nat.add_zero] at this
        exact this
      have c30 : w3.cell? ⟨A, 0, none⟩ = some (.string ⟨#[]⟩) := by unfold World.cell?; rw [b3.at_]; rfl
      have c31 : w3.cell? ⟨A, 1, none⟩ = some (.int .i64 0) := by unfold World.cell?; rw [b3.at_]; rfl
      have c41 : w4.cell? ⟨A, 1, none⟩ = some (.int .i64 0) := by unfold World.cell?; rw [b4.at_]; rfl
      have c50 : w5.cell? ⟨A, 0, none⟩ = some (.string t.k.s) := by unfold World.cell?; rw [b5.at_]; rfl
      have c51 : w5.cell? ⟨A, 1, none⟩ = some (.int .i64 t.k.n) := by unfold World.cell?; rw [b5.at_]; rfl
      have f3 : ∀ n, w3.frozen? ⟨A, n, none⟩ = false := fun n => by unfold World.frozen?; rw [b3.at_]; rfl
      have f4 : ∀ n, w4.frozen? ⟨A, n, none⟩ = false := fun n => by unfold World.frozen?; rw [b4.at_]; rfl
      have HGJ : Hid (goneJ ans (L.map Th.k) (j + 1) = goneJ ans (L.map Th.k) j ++ (if ans j then [] else [t.k])) := by
        show goneJ ans (L.map Th.k) j ++ (if ans j then [] else ((L.map Th.k)[j]?).toList) = _
        rw [htk]; rfl
      have HLN : Hid ((goneJ ans (L.map Th.k) j).length ≤ j) := gone_len _ _ _
      have hbs1 := fun w => bls109 w t.k.s t.k.n
      subst e7
      obtain ⟨n7, hn7⟩ : ∃ n7, (goneJ ans (L.map Th.k) j).length = n7 := ⟨_, rfl⟩
      have HN7 := hid hn7
      rw [hn7] at HP5 ⊢
      clear hinv hgo hks hvs mv b3 b4 b5 m3 m4 m5 mA keep rwk htk htv hlk hlv hj hg7 hn7 ht hjL
      go_wp2_with fail
      rename_i KK aa
      have A0 : Hid (∀ a w, _ → KK a w) := aa
      clear aa
      go_region_with (first
        | (go_at_call 69
           refine HCK.out.mono ?_
           rintro _ w6 ⟨rfl, K6, i6, m6⟩
           have H6 := hid (And.intro i6 m6)
           clear i6 m6))
      all_goals (
        have aa := A0.out
        clear A0
        have R6 : Hid (RW 32 2 kcK K6 w6 B σ (.slice oa7 n7 c7) (goneJ ans (L.map Th.k) j) ∧ RW 32 2 kcK K6 w6 B τ (.slice (some ⟨g, 0, none⟩) n cap) (L.map Th.k) ∧ RW 3 1 vC1 K6 w6 B τ (.slice (some ⟨g2, 0, none⟩) n cap2) (L.map Th.v) ∧ Mv (fun y => (y = τ ∨ y = σ) ∨ T y) w w6 K K6 ∧ TB K6 w6 τ A (.cells #[.string t.k.s, .int .i64 t.k.n] 32)) := by
          obtain ⟨_, a2, a3, a4, a5, a6⟩ := HP5.out
          have hT := HI.out.2.2.2.1
          have hS := HI.out.2.2.2.2.1
          exact ⟨a2.mv H6.out.2 hS, a3.mv H6.out.2 hT, a4.mv H6.out.2 hT, a5.trans (H6.out.2.mono (fun _ h => .inr h)), a6.mv H6.out.2 hT⟩
        have c60 : w6.cell? ⟨A, 0, none⟩ = some (.string t.k.s) := by unfold World.cell?; rw [R6.out.2.2.2.2.at_]; rfl
        have c61 : w6.cell? ⟨A, 1, none⟩ = some (.int .i64 t.k.n) := by unfold World.cell?; rw [R6.out.2.2.2.2.at_]; rfl
        clear c30 c31 c41 c50 c51 f3 f4 t0 t1 v5 HCK HP5
        cases han : ans j
        · rw [han] at HGJ
          obtain ⟨w7, hw7⟩ : ∃ w7, w6.alloc (.cells #[.string t.k.s, .int .i64 t.k.n] 32) = w7 := ⟨_, rfl⟩
          obtain ⟨N, hN⟩ : ∃ N, w6.heap.size = N := ⟨_, rfl⟩
          have m7 := Mv.alloc w6 K6 (fun _ => τ) (.cells #[.string t.k.s, .int .i64 t.k.n] 32)
          rw [hw7] at m7
          have r7 := R6.out.1.mv m7 id
          obtain ⟨ii, hii, hzz, hss, hbb⟩ := kinfoK
          obtain ⟨v8, w8, K8, hap, ho8, m8⟩ := RW.app Try.underlying109 hii hzz hss hbb rfl (by omega) kcL (fun x u hu => kcsK_one [x] u (by simpa [kcsK] using hu)) r7 (Nat.le_trans HN.out.2.1 (Nat.le_trans R6.out.2.2.2.1.size m7.size)) (N := N) (x := t.k) (cs := #[.string t.k.s, .int .i64 t.k.n]) rfl (by rw [← hw7, ← hN]; exact (MapKept.heap_alloc w6 _).1) (by have h1 := HLN.out; have h2 := HN.out; omega) (by have h1 := HLN.out; have h2 := HN.out; omega)
          have HR : Hid (Inv (j + 1) K8 w8 ∧ RW 32 2 kcK K8 w8 B σ v8 (goneJ ans (L.map Th.k) (j + 1)) ∧ RW 32 2 kcK K8 w8 B τ (.slice (some ⟨g, 0, none⟩) n cap) (L.map Th.k) ∧ RW 3 1 vC1 K8 w8 B τ (.slice (some ⟨g2, 0, none⟩) n cap2) (L.map Th.v) ∧ Mv (fun y => (y = τ ∨ y = σ) ∨ T y) w w8 K K8) := by
            obtain ⟨_, a3, a4, a5, _⟩ := R6.out
            have hne := HI.out.2.2.2.2.2
            have m78 : Mv (fun y => y = σ) w6 w8 K6 K8 := (m7.mono (fun _ h => h.elim)).trans m8
            refine ⟨HI.out.2.1 _ _ _ _ _ H6.out.1 (m78.mono (fun _ h => .inr h)), ?_, a3.mv m78 (fun e => hne e.symm), a4.mv m78 (fun e => hne e.symm), a5.trans (m78.mono (fun _ h => .inl (.inr h)))⟩
            rw [HGJ.out]
            exact ho8
          have hsz7 : w6.heap.size = N := hN
          clear R6 H6 HGJ HLN ho8 m8 m7 r7
          refine aa _ _ ?_
          go_wp2_with (at_builtin; refine Hid.out ?_)
          refine (show Hid _ from ?_)
          refine wpList_app rfl _ _ 109 rfl _ _ _ _ rfl rfl (hap _) ?_
          go_wp2
          go_roundw
          case rel => exact ⟨j + 1, K8, by rw [hwr]; rfl, hjn, HR.out⟩
          case measure => exact meas hwr hj'
        · rw [han] at HGJ
          have HR : Hid (Inv (j + 1) K6 w6 ∧ RW 32 2 kcK K6 w6 B σ (.slice oa7 n7 c7) (goneJ ans (L.map Th.k) (j + 1)) ∧ RW 32 2 kcK K6 w6 B τ (.slice (some ⟨g, 0, none⟩) n cap) (L.map Th.k) ∧ RW 3 1 vC1 K6 w6 B τ (.slice (some ⟨g2, 0, none⟩) n cap2) (L.map Th.v) ∧ Mv (fun y => (y = τ ∨ y = σ) ∨ T y) w w6 K K6) := by
            obtain ⟨a2, a3, a4, a5, _⟩ := R6.out
            refine ⟨H6.out.1, ?_, a3, a4, a5⟩
            rw [HGJ.out, if_pos rfl, List.append_nil]
            exact a2
          clear R6 H6 HGJ HLN
          refine aa _ _ ?_
          go_wp2
          go_roundw
          case rel => exact ⟨j + 1, K6, by rw [hwr]; rfl, hjn, HR.out⟩
          case measure => exact meas hwr hj')
    · obtain rfl : j = n := by omega
      have HR := hid (And.intro hgo (And.intro hinv mv))
      clear hinv hgo hks hvs mv hjn hg7
      go_wp2
      go_ret
      exact ⟨_, K1, rfl, HR.out⟩
set_option maxHeartbeats 2000000 in
set_option maxRecDepth 8000 in
theorem unwK_any {a b : Nat} {w : World} {K : Nat → Nat} {p most m r B τ σ : Nat} {L : List (Th KeyP Int)} (h : SH kdK w p most m r L) (hB : B ≤ w.heap.size) (hστ : σ ≠ τ) (T : Nat → Prop) (hT : ¬ T τ) (hS : ¬ T σ) (Inv : Nat → (Nat → Nat) → World → Prop)
    (hmv : ∀ j K K' a b, Inv j K a → Mv (fun y => y = τ ∨ y = σ) a b K K' → Inv j K' b) (h0 : Inv 0 K w) (ans : Nat → Bool)
    (HK : ∀ j t K wk, L[j]? = some t → Inv j K wk → Calls Try.prog 61 #[keyV t.k, .int .i64 t.v, ptr a, ptr b] wk fun e w' => e = .returned (.bool (ans j)) ∧ ∃ K', Inv (j + 1) K' w' ∧ Mv T wk w' K K') :
    Calls Try.prog 67 #[ptr p, .func (.func 61) #[] #[ptr a, ptr b]] w fun e w' => ∃ v K', e = .returned v ∧ RW 32 2 kcK K' w' B σ v (goneJ ans (L.map Th.k) L.length) ∧ Inv L.length K' w' ∧ Mv (fun y => (y = τ ∨ y = σ) ∨ T y) w w' K K' := by
  obtain ⟨n, hn⟩ : ∃ n, L.length = n := ⟨_, rfl⟩
  have HH := hid h
  have HN := hid (And.intro hn (And.intro hB (Nat.le_trans h.len h.m20)))
  have HI := hid (And.intro h0 (And.intro hmv (And.intro HK (And.intro hT (And.intro hS hστ)))))
  rw [hn]
  clear h hB h0 hmv HK hn hT hS hστ
  go_enter Try.func67, Try.ntmps67
  go_wp2_with fail
  refine (keysK_any HH.out).mono ?_
  rintro _ w1 ⟨g, cap, rfl, k1, c1⟩
  have H1 := hid (And.intro k1 c1)
  clear k1 c1
  go_wp2_with fail
  refine (valsK_any (HH.out.below H1.out.2)).mono ?_
  rintro _ w2 ⟨g2, cap2, rfl, k2, c2⟩
  have H2 : Hid (RW 32 2 kcK (ext w K (fun _ => τ)) w2 B τ (.slice (some ⟨g, 0, none⟩) n cap) (L.map Th.k) ∧ RW 3 1 vC1 (ext w K (fun _ => τ)) w2 B τ (.slice (some ⟨g2, 0, none⟩) n cap2) (L.map Th.v) ∧ Mv (fun y => y = τ) w w2 K (ext w K (fun _ => τ))) := by
    have hb2 := H1.out.2.trans (c2.mono H1.out.2.size)
    have o1 := own_mono (own_block H1.out.1 (fun x hx => c2.block x (H1.out.1.lt x hx).2)) HN.out.2.1
    have o2 := own_mono k2 (Nat.le_trans HN.out.2.1 H1.out.2.size)
    rw [HN.out.1] at o1 o2
    refine ⟨⟨by rw [List.length_map, HN.out.1]; exact o1, fun x hx => ext_new (H1.out.1.lt x (by rw [HN.out.1]; exact hx)).1⟩, ⟨by rw [List.length_map, HN.out.1, ← vcs_is]; exact o2, fun x hx => ext_new (Nat.le_trans H1.out.2.size (k2.lt x (by rw [HN.out.1]; exact hx)).1)⟩, (Mv.of_below hb2 K (fun _ => τ)).mono (fun _ h => h.elim)⟩
  rw [HN.out.1]
  clear H1 k2 c2
  go_wp2_with fail
  go_loopw [7, 16] (fun u7 u16 wr => ∃ (j : Nat) (K1 : Nat → Nat), u16 = .int .i64 j ∧ j ≤ n ∧ Inv j K1 wr ∧ RW 32 2 kcK K1 wr B σ u7 (goneJ ans (L.map Th.k) j) ∧ RW 32 2 kcK K1 wr B τ (.slice (some ⟨g, 0, none⟩) n cap) (L.map Th.k) ∧ RW 3 1 vC1 K1 wr B τ (.slice (some ⟨g2, 0, none⟩) n cap2) (L.map Th.v) ∧ Mv (fun y => (y = τ ∨ y = σ) ∨ T y) w wr K K1) (fun _ u16 _ => n - (intOf u16).toNat)
  case atStart =>
    obtain ⟨a1, a2, a3⟩ := H2.out
    exact ⟨0, _, rfl, Nat.zero_le _, HI.out.2.1 _ _ _ _ _ HI.out.1 (a3.mono (fun _ h => .inl h)), RW.nil _ _ _ _ _ _ _, a1, a2, a3.mono (fun _ h => .inl (.inl h))⟩
  case round =>
    obtain ⟨j, K1, rfl, hj, hinv, hgo, hks, hvs, mv⟩ := hrel
    obtain ⟨wo, hwo⟩ : ∃ wo, wo = wr := ⟨_, rfl⟩
    subst hwo
    obtain ⟨oa7, c7, e7, _, hg7⟩ := hgo.form
    by_cases hjn : j < n
    · have hj' : (j : Int) < (n : Int) := by omega
      have hj0 : (0 : Int) ≤ (j : Int) := by omega
      have hwr : wrap64 ((j : Int) + 1) = (j : Int) + 1 := by have := HN.out; unfold wrap64; omega
      have hjL : j < L.length := by rw [HN.out.1]; exact hjn
      obtain ⟨t, ht⟩ : ∃ t, L[j]? = some t := ⟨_, List.getElem?_eq_getElem hjL⟩
      have hlk : (L.map Th.k).length = n := by rw [List.length_map]; exact HN.out.1
      have hlv : (L.map Th.v).length = n := by rw [List.length_map]; exact HN.out.1
      have htk : (L.map Th.k)[j]? = some t.k := by rw [List.getElem?_map, ht]; rfl
      have htv : (L.map Th.v)[j]? = some t.v := by rw [List.getElem?_map, ht]; rfl
      have t0 : wo.cell? ⟨g, j * 2, none⟩ = some (.string t.k.s) := hks.cell kcL hlk htk 0 (by omega)
      have t1 : wo.cell? ⟨g, j * 2 + 1, none⟩ = some (.int .i64 t.k.n) := hks.cell kcL hlk htk 1 (by omega)
      obtain ⟨A, hA⟩ : ∃ A, wo.heap.size = A := ⟨_, rfl⟩
      obtain ⟨w3, hw3⟩ : ∃ w3, wo.alloc (.cells #[.string ⟨#[]⟩, .int .i64 0] 32) = w3 := ⟨_, rfl⟩
      obtain ⟨w4, hw4⟩ : ∃ w4, w3.setCell ⟨A, 0, none⟩ (.string t.k.s) = w4 := ⟨_, rfl⟩
      obtain ⟨w5, hw5⟩ : ∃ w5, w4.setCell ⟨A, 1, none⟩ (.int .i64 t.k.n) = w5 := ⟨_, rfl⟩
      obtain ⟨K3, hK3⟩ : ∃ K3, ext wo K1 (fun _ => τ) = K3 := ⟨_, rfl⟩
      have b3 : TB K3 w3 τ A (.cells #[.string ⟨#[]⟩, .int .i64 0] 32) := by
        have := TB.new wo K1 (fun _ => τ) (.cells #[.string ⟨#[]⟩, .int .i64 0] 32) (t := τ) rfl
        rw [hw3, hA, hK3] at this
        exact this
      have m3 : Mv (fun y => y = τ) wo w3 K1 K3 := by rw [← hw3, ← hK3]; exact (Mv.alloc wo K1 (fun _ => τ) _).mono (fun _ h => h.elim)
      have b4 : TB K3 w4 τ A (.cells #[.string t.k.s, .int .i64 0] 32) := ⟨by rw [← hw4]; unfold World.setCell; simp [Array.getElem?_modify, b3.at_], b3.k⟩
      have m4 : Mv (fun y => y = τ) w3 w4 K3 K3 := by rw [← hw4]; exact Mv.of_set w3 K3 ⟨A, 0, none⟩ _ b3.k
      have b5 : TB K3 w5 τ A (.cells #[.string t.k.s, .int .i64 t.k.n] 32) := ⟨by rw [← hw5]; unfold World.setCell; simp [Array.getElem?_modify, b4.at_], b4.k⟩
      have m5 : Mv (fun y => y = τ) w4 w5 K3 K3 := by rw [← hw5]; exact Mv.of_set w4 K3 ⟨A, 1, none⟩ _ b4.k
      have mA := (m3.trans m4).trans m5
      have keep : ∀ x, (x = g ∨ x = g2 ∨ (∀ z, oa7 = some z → x = z.block → True) ∧ x < wo.heap.size) → x < wo.heap.size → w5.heap[x]? = wo.heap[x]? := fun x _ hx => by
        have hne : x ≠ A := by omega
        rw [← hw5, Below.heap_setCell _ _ _ _ hne, ← hw4, Below.heap_setCell _ _ _ _ hne, ← hw3]
        exact Below.heap_alloc _ _ _ hx
      have rwk : ∀ {α : Type} {e sz s : Nat} {cf : α → List Value} {vv : Value} {l : List α}, RW e sz cf K1 wo B s vv l → RW e sz cf K3 w5 B s vv l := fun {α e sz s cf vv l} hrow =>
        ⟨own_block hrow.own (fun x hx => keep x (.inr (.inr ⟨fun _ _ _ => trivial, (hrow.own.lt x hx).2⟩)) (hrow.own.lt x hx).2), fun x hx => (mA.old x (hrow.own.lt x hx).2).trans (hrow.k x hx)⟩
      have HP5 : Hid (Inv j K3 w5.drew ∧ RW 32 2 kcK K3 w5.drew B σ u7 (goneJ ans (L.map Th.k) j) ∧ RW 32 2 kcK K3 w5.drew B τ (.slice (some ⟨g, 0, none⟩) n cap) (L.map Th.k) ∧ RW 3 1 vC1 K3 w5.drew B τ (.slice (some ⟨g2, 0, none⟩) n cap2) (L.map Th.v) ∧ Mv (fun y => (y = τ ∨ y = σ) ∨ T y) w w5.drew K K3 ∧ TB K3 w5.drew τ A (.cells #[.string t.k.s, .int .i64 t.k.n] 32)) := by
        have md : Mv (fun _ => False) w5 w5.drew K3 K3 := Mv.drew _ _ _
        exact ⟨HI.out.2.1 _ _ _ _ _ hinv ((mA.trans (Mv.drew _ _ _)).mono (fun _ h => .inl h)), (rwk hgo).mv md id, (rwk hks).mv md id, (rwk hvs).mv md id, mv.trans ((mA.trans (Mv.drew _ _ _)).mono (fun _ h => .inl (.inl h))), b5.mv md id⟩
      have HCK := hid (HI.out.2.2.1 j t K3 _ ht HP5.out.1)
      have v5 : w5.cell? ⟨g2, j, none⟩ = some (.int .i64 t.v) := by
        have := (rwk hvs).cell vCL hlv htv 0 (by omega)
        rw [Nat.mul_one, Nat.add_zero] at this
        exact this
      have c30 : w3.cell? ⟨A, 0, none⟩ = some (.string ⟨#[]⟩) := by unfold World.cell?; rw [b3.at_]; rfl
      have c31 : w3.cell? ⟨A, 1, none⟩ = some (.int .i64 0) := by unfold World.cell?; rw [b3.at_]; rfl
      have c41 : w4.cell? ⟨A, 1, none⟩ = some (.int .i64 0) := by unfold World.cell?; rw [b4.at_]; rfl
      have c50 : w5.cell? ⟨A, 0, none⟩ = some (.string t.k.s) := by unfold World.cell?; rw [b5.at_]; rfl
      have c51 : w5.cell? ⟨A, 1, none⟩ = some (.int .i64 t.k.n) := by unfold World.cell?; rw [b5.at_]; rfl
      have f3 : ∀ n, w3.frozen? ⟨A, n, none⟩ = false := fun n => by unfold World.frozen?; rw [b3.at_]; rfl
      have f4 : ∀ n, w4.frozen? ⟨A, n, none⟩ = false := fun n => by unfold World.frozen?; rw [b4.at_]; rfl
      have HGJ : Hid (goneJ ans (L.map Th.k) (j + 1) = goneJ ans (L.map Th.k) j ++ (if ans j then [] else [t.k])) := by
        show goneJ ans (L.map Th.k) j ++ (if ans j then [] else ((L.map Th.k)[j]?).toList) = _
        rw [htk]; rfl
      have HLN : Hid ((goneJ ans (L.map Th.k) j).length ≤ j) := gone_len _ _ _
      have hbs1 := fun w => bls109 w t.k.s t.k.n
      subst e7
      obtain ⟨n7, hn7⟩ : ∃ n7, (goneJ ans (L.map Th.k) j).length = n7 := ⟨_, rfl⟩
      have HN7 := hid hn7
      rw [hn7] at HP5 ⊢
      clear hinv hgo hks hvs mv b3 b4 b5 m3 m4 m5 mA keep rwk htk htv hlk hlv hj hg7 hn7 ht hjL
      go_wp2_with fail
      rename_i KK aa
      have A0 : Hid (∀ a w, _ → KK a w) := aa
      clear aa
      go_region_with (first
        | (go_at_call 61
           refine HCK.out.mono ?_
           rintro _ w6 ⟨rfl, K6, i6, m6⟩
           have H6 := hid (And.intro i6 m6)
           clear i6 m6))
      all_goals (
        have aa := A0.out
        clear A0
        have R6 : Hid (RW 32 2 kcK K6 w6 B σ (.slice oa7 n7 c7) (goneJ ans (L.map Th.k) j) ∧ RW 32 2 kcK K6 w6 B τ (.slice (some ⟨g, 0, none⟩) n cap) (L.map Th.k) ∧ RW 3 1 vC1 K6 w6 B τ (.slice (some ⟨g2, 0, none⟩) n cap2) (L.map Th.v) ∧ Mv (fun y => (y = τ ∨ y = σ) ∨ T y) w w6 K K6 ∧ TB K6 w6 τ A (.cells #[.string t.k.s, .int .i64 t.k.n] 32)) := by
          obtain ⟨_, a2, a3, a4, a5, a6⟩ := HP5.out
          have hT := HI.out.2.2.2.1
          have hS := HI.out.2.2.2.2.1
          exact ⟨a2.mv H6.out.2 hS, a3.mv H6.out.2 hT, a4.mv H6.out.2 hT, a5.trans (H6.out.2.mono (fun _ h => .inr h)), a6.mv H6.out.2 hT⟩
        have c60 : w6.cell? ⟨A, 0, none⟩ = some (.string t.k.s) := by unfold World.cell?; rw [R6.out.2.2.2.2.at_]; rfl
        have c61 : w6.cell? ⟨A, 1, none⟩ = some (.int .i64 t.k.n) := by unfold World.cell?; rw [R6.out.2.2.2.2.at_]; rfl
        clear c30 c31 c41 c50 c51 f3 f4 t0 t1 v5 HCK HP5
        cases han : ans j
        · rw [han] at HGJ
          obtain ⟨w7, hw7⟩ : ∃ w7, w6.alloc (.cells #[.string t.k.s, .int .i64 t.k.n] 32) = w7 := ⟨_, rfl⟩
          obtain ⟨N, hN⟩ : ∃ N, w6.heap.size = N := ⟨_, rfl⟩
          have m7 := Mv.alloc w6 K6 (fun _ => τ) (.cells #[.string t.k.s, .int .i64 t.k.n] 32)
          rw [hw7] at m7
          have r7 := R6.out.1.mv m7 id
          obtain ⟨ii, hii, hzz, hss, hbb⟩ := kinfoK
          obtain ⟨v8, w8, K8, hap, ho8, m8⟩ := RW.app Try.underlying109 hii hzz hss hbb rfl (by omega) kcL (fun x u hu => kcsK_one [x] u (by simpa [kcsK] using hu)) r7 (Nat.le_trans HN.out.2.1 (Nat.le_trans R6.out.2.2.2.1.size m7.size)) (N := N) (x := t.k) (cs := #[.string t.k.s, .int .i64 t.k.n]) rfl (by rw [← hw7, ← hN]; exact (MapKept.heap_alloc w6 _).1) (by have h1 := HLN.out; have h2 := HN.out; omega) (by have h1 := HLN.out; have h2 := HN.out; omega)
          have HR : Hid (Inv (j + 1) K8 w8 ∧ RW 32 2 kcK K8 w8 B σ v8 (goneJ ans (L.map Th.k) (j + 1)) ∧ RW 32 2 kcK K8 w8 B τ (.slice (some ⟨g, 0, none⟩) n cap) (L.map Th.k) ∧ RW 3 1 vC1 K8 w8 B τ (.slice (some ⟨g2, 0, none⟩) n cap2) (L.map Th.v) ∧ Mv (fun y => (y = τ ∨ y = σ) ∨ T y) w w8 K K8) := by
            obtain ⟨_, a3, a4, a5, _⟩ := R6.out
            have hne := HI.out.2.2.2.2.2
            have m78 : Mv (fun y => y = σ) w6 w8 K6 K8 := (m7.mono (fun _ h => h.elim)).trans m8
            refine ⟨HI.out.2.1 _ _ _ _ _ H6.out.1 (m78.mono (fun _ h => .inr h)), ?_, a3.mv m78 (fun e => hne e.symm), a4.mv m78 (fun e => hne e.symm), a5.trans (m78.mono (fun _ h => .inl (.inr h)))⟩
            rw [HGJ.out]
            exact ho8
          have hsz7 : w6.heap.size = N := hN
          clear R6 H6 HGJ HLN ho8 m8 m7 r7
          refine aa _ _ ?_
          go_wp2_with (at_builtin; refine Hid.out ?_)
          refine (show Hid _ from ?_)
          refine wpList_app rfl _ _ 109 rfl _ _ _ _ rfl rfl (hap _) ?_
          go_wp2
          go_roundw
          case rel => exact ⟨j + 1, K8, by rw [hwr]; rfl, hjn, HR.out⟩
          case measure => exact meas hwr hj'
        · rw [han] at HGJ
          have HR : Hid (Inv (j + 1) K6 w6 ∧ RW 32 2 kcK K6 w6 B σ (.slice oa7 n7 c7) (goneJ ans (L.map Th.k) (j + 1)) ∧ RW 32 2 kcK K6 w6 B τ (.slice (some ⟨g, 0, none⟩) n cap) (L.map Th.k) ∧ RW 3 1 vC1 K6 w6 B τ (.slice (some ⟨g2, 0, none⟩) n cap2) (L.map Th.v) ∧ Mv (fun y => (y = τ ∨ y = σ) ∨ T y) w w6 K K6) := by
            obtain ⟨a2, a3, a4, a5, _⟩ := R6.out
            refine ⟨H6.out.1, ?_, a3, a4, a5⟩
            rw [HGJ.out, if_pos rfl, List.append_nil]
            exact a2
          clear R6 H6 HGJ HLN
          refine aa _ _ ?_
          go_wp2
          go_roundw
          case rel => exact ⟨j + 1, K6, by rw [hwr]; rfl, hjn, HR.out⟩
          case measure => exact meas hwr hj')
    · obtain rfl : j = n := by omega
      have HR := hid (And.intro hgo (And.intro hinv mv))
      clear hinv hgo hks hvs mv hjn hg7
      go_wp2
      go_ret
      exact ⟨_, K1, rfl, HR.out⟩
end Go.Proofs.Ytkkamilmjaochaa
