/- The evaluator of closed runs: EvS5 -/
import Derived.Test.YtedbjceeakmjgaaGreatDoorEvS4
namespace Go.Proofs.YtedbjceeakmjgaaGreatDoor.Ev
set_option linter.unusedSimpArgs false

section
variable {P : Program}

theorem appendB_ok {β : Type} {f : Ren} {h : Mem} {n : Nat} {w : World} (hr : R P f h n w) {t tx e : TypeId} {sz1 : Nat} (hel : elemP P t = some (e, sz1)) (hok : appOk P tx e sz1 = true)
    {s s' x x' : Value} (hs : VR f s s') (hx : VR f x x') (hsmall : lenS s + lenS x ≤ 1048576) {k : Value → Mem → Nat → Option β} {r : β}
    (he : appendB h n e sz1 s x k = some r) : ∃ v h' n', k v h' n' = some r ∧ AppOK P f h n w #[t, tx] #[s', x'] v h' n' := by
  obtain ⟨hu, hsz⟩ := elemP_eq hel
  obtain ⟨⟨d, hd, hdk⟩, i, z, hi, hby, hz, hzl⟩ := appOk_eq hok
  have his : i.size = sz1 + 1 := by
    have := hsz
    unfold sizeP at this
    rw [hi] at this
    simpa using this
  have hlenS : ∀ {m : Nat}, lenA x = some m → lenS x = m := by
    intro m hm
    unfold lenA at hm
    split at hm <;> cases hm <;> rfl
  unfold appendB at he
  split at he
  · -- nothing is appended
    rename_i hm
    have key : (Builtin.firstCells (sz1 + 1) 0 x').run P w = .ok ⟨[]⟩ w ∧ Builtin.lenOf x' = pure 0 := by
      unfold lenA at hm
      split at hm
      · rename_i a' n' c'
        cases hm
        cases hx with
        | snil l c => exact ⟨by simp [Builtin.firstCells], rfl⟩
        | slice hb hl h1 h0 => exact ⟨by simp [Builtin.firstCells, loadCells, loadCellsFrom], rfl⟩
        | sliceE hb h0 => exact ⟨by simp [Builtin.firstCells, loadCells, loadCellsFrom], rfl⟩
      · rename_i l
        have hl0 : l = [] := List.length_eq_zero_iff.1 (by simpa using hm)
        subst hl0
        cases hx
        refine ⟨?_, rfl⟩
        have hx : (ByteArray.mk ⟨[]⟩).extract 0 0 = ⟨⟨[]⟩⟩ := by
          apply ByteArray.ext
          simp
        simp [Builtin.firstCells, hx]
      · cases hm
    obtain ⟨kf, kl⟩ := key
    split at he
    · refine ⟨_, _, _, he, f, s', w, fun ty => ?_, hs, .refl hr⟩
      cases hs
      exact append_room (P := P) (w := w) (w' := w) (ty := ty) (base := none) (sLen := 0) (sCap := 0) hu hsz hd hdk kl (Nat.le_refl _) kf (fun a ha => by cases ha) (fun _ => rfl)
    · refine ⟨_, _, _, he, f, s', w, fun ty => ?_, hs, .refl hr⟩
      cases hs with
      | @slice _ _ _ _ cap' L hb hl h1 h0 =>
        exact append_room (P := P) (w := w) (w' := w) (ty := ty) hu hsz hd hdk kl hl kf (fun a ha => rfl) (fun h => by cases h)
      | sliceE hb h0 =>
        exact append_room (P := P) (w := w) (w' := w) (ty := ty) hu hsz hd hdk kl (Nat.zero_le _) kf (fun a ha => rfl) (fun h => by cases h)
    · cases he
  · rename_i m hm
    split at he
    · rename_i l hf
      split at he
      · rename_i hc
        simp only [Bool.and_eq_true, List.all_eq_true] at hc
        have hll : l.length = (m + 1) * (sz1 + 1) := Nat.eq_of_beq_eq_true hc.1
        have hls := hlenS hm
        rw [hls] at hsmall
        have hr2 : R P f h n w.drew := hr.drew rfl
        split at he
        · -- a nil one
          cases hs
          obtain ⟨c0, k1, k2⟩ := newA_ok he
          obtain ⟨news, b1, b2, b3⟩ := hr2.first hx hm hf
          have hrun := fun ty => append_grow (ty := ty) (olds := []) (sLen := 0) (sCap := 0) (base := none) hu hi his hz hd hdk b3 (by omega) b2 (by simp [Builtin.firstCells]) (by simp [lenS] at hsmall; omega) hby (.inr (by simp [lenS] at hsmall; omega))
          have hlen : ([] ++ news : List Value).length = (0 + (m + 1)) * (sz1 + 1) := by rw [List.nil_append, ← b1.len, hll, Nat.zero_add]
          obtain ⟨M, g1, g2⟩ := grow_step (olds := []) hr hsz hzl (l := l) (by simpa using b1) hlen (grown_le w (0 + (m + 1)) 0 e) k2
          simp only [Nat.zero_add] at g1
          exact ⟨_, _, _, k1, _, _, _, by simpa using hrun, g1, by simpa using g2⟩
        · -- an empty one
          rename_i b s1
          split at he
          · rename_i c2 sz2 e2 hg
            split at he
            · rename_i hee
              have : e2 = e := Nat.eq_of_beq_eq_true hee
              subst this
              cases hs with
              | @sliceE _ _ o' cap' L hb h0 =>
              obtain ⟨c0, k1, k2⟩ := newA_ok he
              rw [T.setK_set] at k1
              obtain ⟨cc, fr, a1, a2, a3, a4, a5, a6⟩ := hr.cells hb hg
              have hLs : sz1 + 1 = L.sz := a5 _ hsz
              by_cases hroom : m + 1 ≤ cap'
              · obtain ⟨news, b1, b2, b3⟩ := hr.first hx hm hf
                obtain ⟨cc⟩ := cc
                simp only [List.size_toArray] at a2
                have h2 : o' + cap' * L.sz = L.C := by
                  rcases h0 with h0 | h0
                  · omega
                  · exact h0
                rw [← hLs] at h2
                have h3 : (m + 1) * (sz1 + 1) ≤ cap' * (sz1 + 1) := Nat.mul_le_mul_right _ hroom
                have hnl : news.length = (m + 1) * (sz1 + 1) := by rw [← b1.len, hll]
                have hrun := run_stores (P := P) L.n o' e2 fr news 0 cc w a1 (by rw [a2]; exact a4) (by omega) (b1.one hc.2)
                refine ⟨_, _, _, k1, f.put n ⟨L.n, L.C, L.sz, o'⟩, .slice (some ⟨L.n, o', none⟩) (m + 1) cap',
                  { w with heap := w.heap.setIfInBounds L.n (.cells ⟨layL.put cc (o' + 0) news⟩ e2 fr) },
                  fun ty => ?_, ?_, ?_⟩
                · have := append_room (P := P) (w := w) (ty := ty) (sLen := 0) (base := some ⟨L.n, o', none⟩) hu hsz hd hdk b3 (by omega : 0 + (m + 1) ≤ cap') b2 (fun a ha => by
                    cases ha
                    rw [addr_add, Nat.zero_mul, Nat.add_zero]
                    exact hrun) (fun h => by cases h)
                  simpa using this
                · have := VR.slice (f := f.put n ⟨L.n, L.C, L.sz, o'⟩) (b := n) (o := 0) (len := m + 1) (cap := 0) (cap' := cap') (L := ⟨L.n, L.C, L.sz, o'⟩)
                    (by simp [Ren.put]) hroom (fun h => absurd rfl h) (fun _ => by simp only; rw [← hLs]; omega)
                  simpa using this
                · refine hr.move hb ⟨_, getW_eq hg, by simp⟩ rfl rfl ⟨_, fr, rfl, by simp [put_len, a2], ?_, a4, a5, fun j v hj hv => ?_⟩ ⟨rfl, rfl, rfl⟩
                  · simp only [hll]; omega
                  · rw [k2] at hv
                    simp only [List.getElem?_toArray, Nat.add_zero, put_at]
                    obtain ⟨v', f1, f2⟩ := b1.ex hv
                    have hjl := (List.getElem?_eq_some_iff.1 f1).1
                    refine ⟨v', ?_, f2.mono (Ren.put_le (hr.fresh n (Nat.le_refl _)))⟩
                    rw [if_pos (by omega), show j + o' - o' = j by omega]
                    exact f1
              · obtain ⟨news, b1, b2, b3⟩ := hr2.first hx hm hf
                have hrun := fun ty => append_grow (ty := ty) (olds := []) (sLen := 0) (sCap := cap') (base := some ⟨L.n, o', none⟩) hu hi his hz hd hdk b3 (by omega) b2
                  (by simp [Builtin.firstCells, loadCells, loadCellsFrom]) (by simp [lenS] at hsmall; omega) hby (.inr (by simp [lenS] at hsmall; omega))
                have hlen : ([] ++ news : List Value).length = (0 + (m + 1)) * (sz1 + 1) := by rw [List.nil_append, ← b1.len, hll, Nat.zero_add]
                obtain ⟨M, g1, g2⟩ := grow_step (olds := []) hr hsz hzl (l := l) (by simpa using b1) hlen (grown_le w (0 + (m + 1)) cap' e2) k2
                simp only [Nat.zero_add] at g1
                exact ⟨_, _, _, k1, _, _, _, by simpa using hrun, g1, (by simpa using g2 : Step P f h n w _ _ _ _).trans (Step.trans (.refl (by simpa using g2.r)) (R.kill (by simpa using g2.r) (g2.le _ _ hb)))⟩
            · cases he
          · cases he
        · rename_i b o len cap
          exact growA_ok hr hel hok hs hx hm hf hll (Nat.succ_pos m) hc.2 (by simp only [lenS] at hsmall; omega) he
        · cases he
      · cases he
    · cases he
  · cases he

theorem appendA_ok {β : Type} {f : Ren} {h : Mem} {n : Nat} {w : World} (hr : R P f h n w) {t tx : TypeId} {s s' x x' : Value} (hs : VR f s s') (hx : VR f x x')
    {k : Value → Mem → Nat → Option β} {r : β} (he : appendA P h n t tx s x k = some r) : ∃ v h' n', k v h' n' = some r ∧ AppOK P f h n w #[t, tx] #[s', x'] v h' n' := by
  unfold appendA at he
  split at he
  · rename_i e sz1 hel
    split at he
    · rename_i hc
      simp only [Bool.and_eq_true] at hc
      exact appendB_ok hr hel hc.1 hs hx (Nat.le_of_ble_eq_true hc.2) he
    · cases he
  · cases he

end
end Go.Proofs.YtedbjceeakmjgaaGreatDoor.Ev
