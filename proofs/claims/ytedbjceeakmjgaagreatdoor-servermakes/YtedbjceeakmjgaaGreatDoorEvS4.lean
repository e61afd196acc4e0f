/- The evaluator of closed runs: EvS4 -/
import Derived.Test.YtedbjceeakmjgaaGreatDoorEvS3
namespace Go.Proofs.YtedbjceeakmjgaaGreatDoor.Ev
set_option linter.unusedSimpArgs false

section
variable {P : Program}

theorem growA_ok {β : Type} {f : Ren} {h : Mem} {n : Nat} {w : World} (hr : R P f h n w) {t tx e : TypeId} {sz1 : Nat} (hel : elemP P t = some (e, sz1)) (hok : appOk P tx e sz1 = true)
    {b o len cap m : Nat} {s' x x' : Value} {l : List Value} (hs : VR f (.slice (some ⟨b, o, none⟩) len cap) s') (hx : VR f x x') (hm : lenA x = some m) (hf : firstA h (sz1 + 1) x = some l)
    (hll : l.length = m * (sz1 + 1)) (_hm0 : 0 < m) (h1l : ∀ v ∈ l, oneA v = true) (hsmall : len + m ≤ 1048576) {k : Value → Mem → Nat → Option β} {r : β}
    (he : growA h n e (sz1 + 1) b o len cap m l k = some r) : ∃ v h' n', k v h' n' = some r ∧ AppOK P f h n w #[t, tx] #[s', x'] v h' n' := by
  obtain ⟨hu, hsz⟩ := elemP_eq hel
  obtain ⟨⟨d, hd, hdk⟩, i, z, hi, hby, hz, hzl⟩ := appOk_eq hok
  have his : i.size = sz1 + 1 := by
    have := hsz
    unfold sizeP at this
    rw [hi] at this
    simpa using this
  cases hs with
  | @slice _ _ _ _ cap' L hb hl hc h0 =>
  unfold growA at he
  split at he
  · rename_i c sz e' hg
    split at he
    · cases he
    · rename_i hee
      have : e' = e := Nat.eq_of_beq_eq_true hee
      subst this
      obtain ⟨cc, fr, a1, a2, a3, a4, a5, a6⟩ := hr.cells hb hg
      have hLs : sz1 + 1 = L.sz := a5 _ hsz
      split at he
      · -- there is room, as is known
        rename_i hin
        have hroom : len + m ≤ cap' := by
          unfold inPlace at hin
          split at hin
          · have h1 : o + (len + m) * (sz1 + 1) ≤ sz := Nat.le_of_ble_eq_true hin
            have h2 := h0 rfl
            rw [← hLs] at h2
            have h3 : (len + m) * (sz1 + 1) ≤ cap' * (sz1 + 1) := by omega
            exact Nat.le_of_mul_le_mul_right h3 (Nat.succ_pos sz1)
          · have h1 := Nat.le_of_ble_eq_true hin
            have := (hc (by simp)).1
            omega
        obtain ⟨news, b1, b2, b3⟩ := hr.first hx hm hf
        obtain ⟨h', w', c1, c2, c3, _⟩ := storeA_ok hr hb b1 he
        rw [natK_eq] at c1
        refine ⟨_, _, _, c1, f, _, w', fun ty => append_room hu hsz hd hdk b3 hroom b2 (fun a ha => ?_) (fun h => by cases h), ?_, c3⟩
        · cases ha
          rw [addr_add, show o + L.sh + len * (sz1 + 1) = o + len * (sz1 + 1) + L.sh by omega]
          exact c2
        · exact .slice hb hroom hc h0
      · -- there may be room
        rename_i hin
        split at he
        · rename_i old hold
          obtain ⟨c0, k1, k2⟩ := newA_ok he
          rw [natK_eq] at k1
          by_cases hroom : len + m ≤ cap'
          · -- there is: the row is written over
            have hcap : cap = 0 := by
              cases cap with
              | zero => rfl
              | succ q =>
                have := (hc (by simp)).1
                simp only [inPlace] at hin
                have : Nat.ble (len + m) (q + 1) = true := Nat.ble_eq_true_of_le (by omega)
                rw [this] at hin; cases hin
            subst hcap
            simp only [T.setK_set] at k1
            obtain ⟨news, b1, b2, b3⟩ := hr.first hx hm hf
            obtain ⟨olds, d1, d2, d3⟩ := hr.rd hb hg hold
            -- what lies there
            obtain ⟨cc⟩ := cc
            simp only [List.size_toArray] at a2
            have h2 := h0 rfl
            rw [← hLs] at h2
            have hfit : o + L.sh + len * (sz1 + 1) + news.length ≤ cc.length := by
              rw [← b1.len, hll, a2, ← h2]
              have h3 : (len + m) * (sz1 + 1) ≤ cap' * (sz1 + 1) := Nat.mul_le_mul_right _ hroom
              rw [Nat.add_mul] at h3
              omega
            have hone : ∀ v ∈ news, v.oneCell' = true := b1.one h1l
            have hrun := run_stores (P := P) L.n (o + L.sh + len * (sz1 + 1)) e' fr news 0 cc w a1 (by rw [a2]; exact a4) (by omega) hone
            refine ⟨_, _, _, k1, f.put n ⟨L.n, L.C, L.sz, o + L.sh⟩, .slice (some ⟨L.n, o + L.sh, none⟩) (len + m) cap',
              { w with heap := w.heap.setIfInBounds L.n (.cells ⟨layL.put cc (o + L.sh + len * (sz1 + 1) + 0) news⟩ e' fr) },
              fun ty => append_room hu hsz hd hdk b3 hroom b2 (fun a ha => ?_) (fun h => by cases h), ?_, ?_⟩
            · cases ha
              rw [addr_add]
              exact hrun
            · have := VR.slice (f := f.put n ⟨L.n, L.C, L.sz, o + L.sh⟩) (b := n) (o := 0) (len := len + m) (cap := 0) (cap' := cap') (L := ⟨L.n, L.C, L.sz, o + L.sh⟩)
                (by simp [Ren.put]) hroom (fun h => absurd rfl h) (fun _ => by simp only; have := h0 rfl; omega)
              simpa using this
            · refine hr.move hb ⟨_, getW_eq hg, by simp⟩ rfl rfl ⟨_, fr, rfl, by simp [put_len, a2], ?_, a4, a5, fun j v hj hv => ?_⟩ ⟨rfl, rfl, rfl⟩
              · simp only [List.length_append, hll, d1.len, d2]
                have h3 : (len + m) * (sz1 + 1) ≤ cap' * (sz1 + 1) := Nat.mul_le_mul_right _ hroom
                rw [Nat.add_mul] at h3
                omega
              · rw [k2] at hv
                simp only [List.getElem?_toArray, Nat.add_zero, put_at]
                have hol : old.length = len * (sz1 + 1) := by rw [d1.len, d2]
                by_cases hjo : j < old.length
                · rw [List.getElem?_append_left hjo] at hv
                  rw [if_neg (by omega)]
                  obtain ⟨e1, e2, e3⟩ := rdCells_at _ hold
                  obtain ⟨v', f1, f2⟩ := a6 (o + j) v (by have := e2 (by omega); omega) (e3 j v hv)
                  refine ⟨v', ?_, f2.mono (Ren.put_le (hr.fresh n (Nat.le_refl _)))⟩
                  rw [show j + (o + L.sh) = o + j + L.sh by omega]
                  simpa using f1
                · rw [List.getElem?_append_right (by omega)] at hv
                  obtain ⟨v', f1, f2⟩ := b1.ex hv
                  have hjl := (List.getElem?_eq_some_iff.1 f1).1
                  refine ⟨v', ?_, f2.mono (Ren.put_le (hr.fresh n (Nat.le_refl _)))⟩
                  rw [if_pos (by omega), show j + (o + L.sh) - (o + L.sh + len * (sz1 + 1)) = j - old.length by omega]
                  exact f1
          · -- there is none: another row
            have hr2 : R P f h n w.drew := hr.drew rfl
            obtain ⟨news, b1, b2, b3⟩ := hr2.first hx hm hf
            obtain ⟨olds, d1, d2, d3⟩ := hr2.rd hb hg hold
            have hfo : (Builtin.firstCells (sz1 + 1) len (.slice (some ⟨L.n, o + L.sh, none⟩) len cap')).run P w.drew = .ok ⟨olds⟩ w.drew := by
              simp [Builtin.firstCells, d3]
            have hrun := fun ty => append_grow (ty := ty) hu hi his hz hd hdk b3 (by omega : cap' < len + m) b2 hfo hsmall hby (.inr hsmall)
            have hlen : (olds ++ news).length = (len + m) * (sz1 + 1) := by rw [List.length_append, d2, ← b1.len, hll, Nat.add_mul]
            obtain ⟨M, g1, g2⟩ := grow_step hr hsz hzl (d1.append b1) hlen (grown_le w (len + m) cap' e') k2
            cases cap with
            | zero =>
              simp only [T.setK_set] at k1
              refine ⟨_, _, _, k1, _, _, _, hrun, g1, g2.trans (g2.r.kill (b := b) (L := L) ?_)⟩
              exact g2.le _ _ hb
            | succ q => exact ⟨_, _, _, k1, _, _, _, hrun, g1, g2⟩
        · cases he
  · cases he

end
end Go.Proofs.YtedbjceeakmjgaaGreatDoor.Ev
