/- The evaluator of closed runs: EvD3 -/
import Derived.Test.YtedbjceeakmjgaaGreatDoorEvD2
namespace Go.Proofs.YtedbjceeakmjgaaGreatDoor.Ev
set_option linter.unusedSimpArgs false

section
variable {P : Program}

theorem blockOk_eq {s : St} {q : Nat} {l : List Value} {e : TypeId} (h : blockOk s q l e = true) : ∃ c, s.h.get q = some (.cells c l.length e) ∧ q < s.n ∧ ∀ i v, i < l.length → c.get i = some v → l[i]? = some v := by
  unfold blockOk at h
  split at h
  · rename_i c sz e' hg
    simp only [Bool.and_eq_true] at h
    obtain ⟨⟨⟨h1, h2⟩, h3⟩, h4⟩ := h
    have e1 := Nat.eq_of_beq_eq_true h1
    have e2 := Nat.eq_of_beq_eq_true h2
    subst e1; subst e2
    split at h4
    · rename_i l2 hl
      have := sameLL_eq (fun _ _ => sameV_eq 6) h4
      subst this
      obtain ⟨k1, k2, k3⟩ := rdCells_at _ hl
      refine ⟨c, getW_eq hg, Nat.le_of_ble_eq_true h3, fun i v hi hv => ?_⟩
      have := k3 i _ (List.getElem?_eq_getElem hi)
      rw [Nat.zero_add, hv] at this
      rw [List.getElem?_eq_getElem hi, ← this]
    · cases h4
  · cases h

/-- a promised block laid down: the step from the region's start. -/
theorem Step.fulfil {f₀ f : Ren} {h₀ h : Mem} {n₀ n : Nat} {w₀ w w' : World} (hst : Step P f₀ h₀ n₀ w₀ f h n w) {q : Nat} (hq : f q = none) (hq0 : n₀ ≤ q) {L : Loc} (hL : L.n = w.heap.size) {x : Obj}
    (hh : w'.heap = w.heap.push x) (hs : w'.tape = w.tape ∧ w'.os = w.os ∧ w'.output = w.output) (hr : R P (f.put q L) h n w') : Step P f₀ h₀ n₀ w₀ (f.put q L) h n w' := by
  have hle : RLe f (f.put q L) := Ren.put_le hq
  refine ⟨hr, hst.le.trans hle, fun b hb hf => ?_, fun b M hb => ?_, fun m hm hf => ?_, ?_, ?_, hst.cnt⟩
  · obtain ⟨h1, h2⟩ := hst.old b hb hf
    refine ⟨?_, h2⟩
    simp only [Ren.put]
    rw [if_neg (by omega)]
    exact h1
  · simp only [Ren.put] at hb
    split at hb
    · cases hb; right; left; rw [hL]; exact hst.size
    · exact hst.img b M hb
  · rw [← hst.frame m hm hf, hh, Array.getElem?_push]
    have := hst.size
    split
    · omega
    · rfl
  · rw [hh, Array.size_push]; have := hst.size; omega
  · exact ⟨hs.1.trans hst.same.1, hs.2.1.trans hst.same.2.1, hs.2.2.trans hst.same.2.2⟩

theorem wpOp_value {ops : Array Oper} {Q : Exit → Act → World → Prop} {i : Nat} {o : Oper} (ho : ops[i]? = some o) {K : Act → World → Prop} {a : Act} {w w' : World} {v : Value}
    (hw : Region.wanted o (yielded ops a.tmps) = true) (hrun : (execOp a.eval o).run P w = .ok (.value v) w') (hK : K (a.put o.dst v) w') : wpOp P ops Q i K a w := by
  unfold wpOp
  simp only [ho, hw, if_true, Oper.wp, hrun, Oper.upon]
  exact .inl hK

theorem promOf_eq {o : Oper} {s : St} {d : Tmp} {q : Nat} (hn : isNew o.op = true) (hd : o.dst = some d) (hv : madeOf (opd s.tm (.tmp d)) = some q) : promOf o s = some q := by
  unfold promOf
  rw [hn, hd]
  exact hv

/-- A FLOATING OPERATION COMES UP. -/
theorem float_ok {ops : Array Oper} {ms : List Nat} (hp : PK ops ms) {Q : Exit → Act → World → Prop} {f₀ : Ren} {s₀ : St} {w₀ : World} {rest : List (Nat × List Nat)} {pend : List Nat} {S : St} {listed : Array Bool}
    {f : Ren} {a : Act} {w : World} (I : Inv P ops ms f₀ s₀ w₀ rest pend S listed f a w) {i : Nat} {o : Oper} (ho : ops[i]? = some o) (hi : i ∈ pend) (hn : ¬ On listed i) (hrest : i ∉ restOps rest)
    (hr : ∀ e ∈ edgesOf o, On listed e) {K : Act → World → Prop} (hK : ∀ g a' w', Inv P ops ms f₀ s₀ w₀ rest pend S (listed.setIfInBounds i true) g a' w' → K a' w') : wpOp P ops Q i K a w := by
  obtain ⟨o', h1, hag, _⟩ := agains_mem I.ag i hi
  rw [ho] at h1; cases h1
  have hlook := I.looks hp ho hr
  have hwant := wanted_at ops o hlook
  have hpo : ∀ j q x, j ∈ pend → ¬ On listed j → j ≠ i → ops[j]? = some q → promOf q S = some x → f x = none := fun j q x hj hnj _ hq hx => (I.prom j q x hj hnj hq hx).1
  unfold again at hag
  split at hag
  · -- it isn't wanted
    rename_i hw
    rw [hw] at hwant
    unfold wpOp
    simp only [ho, hwant, Bool.false_eq_true, if_false]
    refine hK f _ w (I.list ho hi hn hrest hr (RLe.refl f) (fun d hd => ?_) I.st hpo)
    rw [hd] at hag
    have : opd S.tm (.tmp d) = undef := sameV_eq 2 hag
    rw [this]; exact vr_undef
  · rename_i hw
    rw [hw] at hwant
    simp only [Bool.and_eq_true] at hag
    obtain ⟨hc, hag⟩ := hag
    have hopr : OpR f (opd S.tm) a.eval o.op := opr_at hc hlook
    split at hag
    · rename_i v hv
      simp only [Bool.and_eq_true] at hag
      obtain ⟨r, ⟨v', k1, rfl⟩, k2⟩ := evF_sound I.st.r hopr hv
      refine wpOp_value ho hwant k2 (hK f _ w (I.list ho hi hn hrest hr (RLe.refl f) (fun d hd => ?_) I.st hpo))
      have hs := hag.2
      rw [hd] at hs
      have := sameV_eq 7 hs
      rw [← this]; exact k1
    · rename_i l e hv
      simp only [Bool.and_eq_true] at hag
      obtain ⟨hnew, hag⟩ := hag
      split at hag
      · rename_i d hd
        split at hag
        · rename_i q hq
          obtain ⟨c, b1, b2, b3⟩ := blockOk_eq hag
          obtain ⟨r, ⟨l', k1, rfl⟩, k2⟩ := evF_sound I.st.r hopr hv
          have hpr : promOf o S = some q := promOf_eq hnew hd (by rw [hq]; rfl)
          obtain ⟨hfq, _⟩ := I.prom i o q hi hn ho hpr
          have hle : RLe f (f.put q ⟨w.heap.size, l'.length, (sizeP P e).getD 0, 0⟩) := Ren.put_le hfq
          have hR := I.st.r.fulfil hfq b2 b1 (w' := { w with heap := w.heap.push (.cells ⟨l'⟩ e) }) (l' := l') (fr := (0, 0)) (z := (sizeP P e).getD 0) rfl (fun y hy => by rw [hy]; rfl)
            (fun j _ h => by simp at h) (Nat.le_of_eq k1.len) (fun j v hj hv' => k1.ex (b3 j v hj hv'))
          refine wpOp_value ho hwant k2 (hK _ _ _ (I.list ho hi hn hrest hr hle (fun d' hd' => ?_) (I.st.fulfil hfq (I.lo i o q hi ho hpr) rfl rfl ⟨rfl, rfl, rfl⟩ hR) (fun j q' x hj hnj hji hq' hx => ?_)))
          · rw [hd] at hd'; cases hd'
            rw [hq]
            have := VR.ptr (f := f.put q ⟨w.heap.size, l'.length, (sizeP P e).getD 0, 0⟩) (b := q) (o := 0) (L := ⟨w.heap.size, l'.length, (sizeP P e).getD 0, 0⟩) (by simp [Ren.put])
            simpa using this
          · have hne : x ≠ q := fun e => by subst e; exact hji (agains_inj I.ag j hj i hi q' o x hq' ho hx hpr)
            simp only [Ren.put, if_neg hne]
            exact hpo j q' x hj hnj hji hq' hx
        · cases hag
      · cases hag
    · rename_i len cap l e hv
      simp only [Bool.and_eq_true] at hag
      obtain ⟨hnew, hag⟩ := hag
      split at hag
      · rename_i d hd
        split at hag
        · rename_i q len' cap' hq
          simp only [Bool.and_eq_true] at hag
          obtain ⟨⟨g1, g2⟩, hag⟩ := hag
          have e1 := Nat.eq_of_beq_eq_true g1
          have e2 := Nat.eq_of_beq_eq_true g2
          subst e1; subst e2
          obtain ⟨c, b1, b2, b3⟩ := blockOk_eq hag
          obtain ⟨r, ⟨l', cp, w', fr, rfl, h1, h3, ⟨z1, h4, h5, h6, h7⟩, h8, h9, h10⟩, k2⟩ := evF_sound I.st.r hopr hv
          have hpr : promOf o S = some q := promOf_eq hnew hd (by rw [hq]; rfl)
          obtain ⟨hfq, _⟩ := I.prom i o q hi hn ho hpr
          have hle : RLe f (f.put q ⟨w.heap.size, l'.length, z1, 0⟩) := Ren.put_le hfq
          have hR := I.st.r.fulfil hfq b2 b1 (w' := w') (l' := l') (fr := fr) (z := z1) h1 (fun y hy => by rw [h4] at hy; cases hy; rfl)
            h8 h9 (fun j v hj hv' => h10 j v (b3 j v hj hv'))
          refine wpOp_value ho hwant k2 (hK _ _ _ (I.list ho hi hn hrest hr hle (fun d' hd' => ?_) (I.st.fulfil hfq (I.lo i o q hi ho hpr) rfl h1 h3 hR) (fun j q' x hj hnj hji hq' hx => ?_)))
          · rw [hd] at hd'; cases hd'
            rw [hq]
            have := VR.slice (f := f.put q ⟨w.heap.size, l'.length, z1, 0⟩) (b := q) (o := 0) (len := len) (cap := cap) (cap' := cp) (L := ⟨w.heap.size, l'.length, z1, 0⟩) (by simp [Ren.put]) h5
              (fun hne => ⟨(h6 hne).1, by simpa using (h6 hne).2⟩) (fun h0 => by simpa using h7 h0)
            simpa using this
          · have hne : x ≠ q := fun e => by subst e; exact hji (agains_inj I.ag j hj i hi q' o x hq' ho hx hpr)
            simp only [Ren.put, if_neg hne]
            exact hpo j q' x hj hnj hji hq' hx
        · cases hag
      · cases hag
    · cases hag

end
end Go.Proofs.YtedbjceeakmjgaaGreatDoor.Ev
