/- The evaluator of closed runs: EvF3 -/
import Derived.Test.YtedbjceeakmjgaaGreatDoorEvF1
namespace Go.Proofs.YtedbjceeakmjgaaGreatDoor.Ev
set_option linter.unusedSimpArgs false

section
variable {P : Program}

/- slices -/

/-- bounds that are there or not, and what they stand for. -/
inductive OV (f : Ren) : Option Value → Option Value → Prop
  | none : OV f none none
  | some {v v' : Value} (h : VR f v v') : OV f (some v) (some v')

theorem bound_run {f : Ren} {w : World} {x x' : Value} {i y : Nat} {c : BoundsCode} (hx : VR f x x') (hi : natV x = some i) (hy : i ≤ y) : (Instr.sliceBound x' y c).run P w = .ok i w := by
  obtain ⟨k, rfl⟩ := hx.natV hi
  have h3 : (0 : Int) ≤ (i : Int) ∧ (i : Int) ≤ (y : Int) := ⟨by simp, by omega⟩
  simp [Instr.sliceBound, asIntOf, h3, hy]

theorem bounds_run {f : Ren} {w : World} {s : Bool} {lo lo' hi hi' : Option Value} {len cap l r : Nat} (hlo : OV f lo lo') (hhi : OV f hi hi') (h1 : boundV 0 lo = some l)
    (h2 : boundV len hi = some r) (hlr : l ≤ r) (hr : r ≤ cap) : (Instr.sliceBounds s len cap lo' hi' none).run P w = .ok (l, r, cap) w := by
  have e2 : (match hi', (none : Option Value) with
      | some v, some _ => Instr.sliceBound v cap .slice3B
      | some v, none => Instr.sliceBound v cap (if s then .sliceAcap else .sliceAlen)
      | none, none => pure len
      | none, some _ => stuck "Slice: max without high" : Sem Nat).run P w = .ok r w := by
    cases hhi with
    | none => simp only [boundV] at h2; cases h2; rfl
    | some h => exact bound_run h h2 hr
  have e3 : (match lo' with
      | some v => Instr.sliceBound v r .sliceB
      | none => pure 0 : Sem Nat).run P w = .ok l w := by
    cases hlo with
    | none => simp only [boundV] at h1; cases h1; rfl
    | some h => exact bound_run h h1 hlr
  unfold Instr.sliceBounds
  simp only [Sem.run_bind, Sem.run_pure, Result.andThen_ok, Option.isSome_none, Bool.false_eq_true, if_false]
  cases hi' <;> cases lo' <;> simp_all

theorem bounds_run3 {f : Ren} {w : World} {s : Bool} {lo lo' hi hi' : Option Value} {x x' : Value} {len cap l r m : Nat} (hlo : OV f lo lo') (hhi : OV f hi hi') (hx : VR f x x') (h1 : boundV 0 lo = some l)
    (h2 : boundV len hi = some r) (h3 : natV x = some m) (hlr : l ≤ r) (hr : r ≤ m) (hm : m ≤ cap) (hs : hi' ≠ none) : (Instr.sliceBounds s len cap lo' hi' (some x')).run P w = .ok (l, r, m) w := by
  have e1 : ∀ c, (Instr.sliceBound x' cap c).run P w = .ok m w := fun c => bound_run hx h3 hm
  have e3 : ∀ c, (match lo' with
      | some v => Instr.sliceBound v r c
      | none => pure 0 : Sem Nat).run P w = .ok l w := by
    intro c
    cases hlo with
    | none => simp only [boundV] at h1; cases h1; rfl
    | some h => exact bound_run h h1 hlr
  cases hhi with
  | none => exact absurd rfl hs
  | some h =>
    have e2 : ∀ c, (Instr.sliceBound _ m c).run P w = .ok r w := fun c => bound_run h h2 hr
    unfold Instr.sliceBounds
    simp only [Sem.run_bind, Sem.run_pure, Result.andThen_ok, e1, e2]
    have := e3 (if (some x').isSome then .slice3C else .sliceB)
    cases lo' <;> simp_all

theorem f_sliceS {f : Ren} {h : Mem} {n : Nat} {w : World} (hr : R P f h n w) {t : TypeId} {b o len cap : Nat} {x' : Value} {lo lo' hi hi' mx mx' : Option Value} {fr : FR}
    (hx : VR f (.slice (some ⟨b, o, none⟩) len cap) x') (hlo : OV f lo lo') (hhi : OV f hi hi') (hmx : OV f mx mx') (he : fSliceS P h t b o len cap lo hi mx = some fr) :
    FOK P f w ((Instr.sliceAt t x' lo' hi' mx').run P w) fr := by
  unfold fSliceS at he
  split at he
  · rename_i e k hel
    obtain ⟨hu, hs⟩ := elemP_eq hel
    cases hx with
    | @slice _ _ _ _ cap' L hb hl hc h0 =>
    split at he
    · rename_i l r lim hl1 hr1 hlim
      -- how far the slice may be drawn out
      have hLs : L.sz = k + 1 ∧ lim ≤ cap' := by
        unfold limA at hlim
        split at hlim
        · rename_i c sz e' hg
          obtain ⟨c', fr', a1, a2, a3, a4, a5, a6⟩ := hr.cells hb hg
          split at hlim
          · rename_i hee
            have : e' = e := Nat.eq_of_beq_eq_true hee
            subst this
            have hsz := a5 _ hs
            refine ⟨hsz.symm, ?_⟩
            split at hlim
            · cases hlim
              have := h0 rfl
              rw [← hsz] at this
              refine Nat.max_le.2 ⟨hl, ?_⟩
              show (sz - o) / (k + 1) ≤ cap'
              have h7 : sz - o ≤ cap' * (k + 1) := by omega
              calc (sz - o) / (k + 1) ≤ (cap' * (k + 1)) / (k + 1) := Nat.div_le_div_right h7
                _ = cap' := Nat.mul_div_cancel _ (Nat.succ_pos k)
            · cases hlim
              have := (hc (by simp)).1
              omega
          · cases hlim
        · cases hlim
      obtain ⟨hLs, hlc⟩ := hLs
      split at he
      · -- no third bound
        cases hmx
        split at he
        · rename_i hb2
          simp only [Bool.and_eq_true] at hb2
          have h1 : l ≤ r := Nat.le_of_ble_eq_true hb2.1
          have h2 : r ≤ lim := Nat.le_of_ble_eq_true hb2.2
          have hrun : (Instr.sliceAt t (.slice (some ⟨L.n, o + L.sh, none⟩) len cap') lo' hi' none).run P w =
              .ok (.slice (if cap' = l then some ⟨L.n, o + L.sh, none⟩ else some ⟨L.n, o + L.sh + l * (k + 1), none⟩) (r - l) (cap' - l)) w := by
            have := bounds_run (P := P) (w := w) (s := true) hlo hhi hl1 hr1 h1 (Nat.le_trans h2 hlc)
            simp only [Instr.sliceAt, Instr.slice, Sem.run_bind, run_underlying hu, Result.andThen_ok, this, run_sz hs, Sem.run_pure, Option.map_some, addr_add]
          unfold cutS at he
          simp only at he
          split at he
          · cases he
            refine ⟨_, VR.slice (cap' := cap') hb (Nat.le_trans h2 hlc) hc h0, ?_⟩
            rw [hrun]
            by_cases hz : cap' = 0
            · simp [hz]
            · simp [hz]
          · rename_i l'
            split at he
            · rename_i hbq
              have hq := Nat.eq_of_beq_eq_true hbq
              cases he
              by_cases hz : cap' = l' + 1
              · refine ⟨_, VR.sliceE (o' := o + L.sh) (cap' := 0) hb (.inl rfl), ?_⟩
                rw [hrun, if_pos hz]
                congr 2
                · split at hq <;> omega
                · omega
              · refine ⟨_, VR.sliceE (o' := o + L.sh + (l' + 1) * (k + 1)) (cap' := cap' - (l' + 1)) hb (.inr ?_), ?_⟩
                · split at hq
                  · have := h0 rfl
                    rw [hLs] at this ⊢
                    rw [Nat.sub_mul]
                    have h9 : (l' + 1) * (k + 1) ≤ cap' * (k + 1) := Nat.mul_le_mul_right _ (by omega)
                    omega
                  · have := (hc (by simp)).1
                    omega
                · rw [hrun, if_neg hz]
                  congr 2
                  split at hq
                  · omega
                  · have := (hc (by simp)).1; omega
            · rename_i hbq
              cases he
              cases cap with
              | zero =>
                have hq : r ≠ l' + 1 := fun hq => by simp [hq] at hbq
                have hz : cap' ≠ l' + 1 := by omega
                refine ⟨_, VR.slice (cap' := cap' - (l' + 1)) hb (by omega) (fun hne => absurd rfl hne) (fun _ => ?_), ?_⟩
                · have := h0 rfl
                  rw [hLs] at this ⊢
                  rw [Nat.sub_mul]
                  have h9 : (l' + 1) * (k + 1) ≤ cap' * (k + 1) := Nat.mul_le_mul_right _ (by omega)
                  omega
                · rw [hrun, if_neg hz]
                  congr 4
                  simp only [Nat.succ_eq_add_one]; omega
              | succ c =>
                have hq : c + 1 ≠ l' + 1 := fun hq => by simp at hq; simp [hq] at hbq
                obtain ⟨e1, e2⟩ := hc (by simp)
                have hz : cap' ≠ l' + 1 := by omega
                refine ⟨_, VR.slice (cap' := cap' - (l' + 1)) hb (by omega) (fun hne => ⟨by simp only; omega, ?_⟩) (fun h00 => ?_), ?_⟩
                · simp only
                  rw [hLs] at e2 ⊢
                  rw [Nat.sub_mul]
                  have h9 : (l' + 1) * (k + 1) ≤ (c + 1) * (k + 1) := Nat.mul_le_mul_right _ (by omega)
                  omega
                · simp only at h00; omega
                · rw [hrun, if_neg hz]
                  congr 4
                  simp only [Nat.succ_eq_add_one]; omega
        · cases he
      · -- with a third bound
        rename_i x
        cases hmx with
        | @some _ x' hx =>
        split at he
        · rename_i m hm
          split at he
          · rename_i hb2
            simp only [Bool.and_eq_true] at hb2
            have h1 : l ≤ r := Nat.le_of_ble_eq_true hb2.1.1.1
            have h2 : r ≤ m := Nat.le_of_ble_eq_true hb2.1.1.2
            have h3 : m ≤ lim := Nat.le_of_ble_eq_true hb2.1.2
            have hne : hi' ≠ none := by
              cases hhi with
              | none => simp at hb2
              | some _ => simp
            have hrun : (Instr.sliceAt t (.slice (some ⟨L.n, o + L.sh, none⟩) len cap') lo' hi' (some x')).run P w =
                .ok (.slice (if m = l then some ⟨L.n, o + L.sh, none⟩ else some ⟨L.n, o + L.sh + l * (k + 1), none⟩) (r - l) (m - l)) w := by
              have := bounds_run3 (P := P) (w := w) (s := true) hlo hhi hx hl1 hr1 hm h1 h2 (Nat.le_trans h3 hlc) hne
              simp only [Instr.sliceAt, Instr.slice, Sem.run_bind, run_underlying hu, Result.andThen_ok, this, run_sz hs, Sem.run_pure, Option.map_some, addr_add]
            unfold cutS at he
            simp only at he
            split at he
            · rename_i hbq
              have hq : m = l := Nat.eq_of_beq_eq_true hbq
              cases he
              refine ⟨_, VR.sliceE (o' := o + L.sh) (cap' := 0) hb (.inl rfl), ?_⟩
              rw [hrun, if_pos hq]
              congr 2 <;> omega
            · rename_i hbq
              have hq : m ≠ l := fun hq => by rw [hq] at hbq; simp at hbq
              cases he
              refine ⟨_, VR.slice (cap' := m - l) hb (by omega) (fun _ => ⟨rfl, ?_⟩) (fun h => by omega), ?_⟩
              · have h8 : o + L.sh + cap' * (k + 1) ≤ L.C := by
                  by_cases hcz : cap = 0
                  · have := h0 hcz; rw [hLs] at this; omega
                  · obtain ⟨e1, e2⟩ := hc hcz
                    rw [hLs] at e2; rw [e1]; exact e2
                rw [hLs, Nat.sub_mul]
                have h9 : l * (k + 1) ≤ m * (k + 1) := Nat.mul_le_mul_right _ (by omega)
                have h10 : m * (k + 1) ≤ cap' * (k + 1) := Nat.mul_le_mul_right _ (by omega)
                omega
              · rw [hrun, if_neg hq]
                congr 4
                omega
          · cases he
        · cases he
    · cases he
  · cases he

theorem nought_bound {x : Option Value} (h : noughtV x = true) (d : Nat) : boundV d x = some d ∨ boundV d x = some 0 := by
  cases x with
  | none => exact .inl rfl
  | some v =>
    simp only [noughtV] at h
    split at h
    · rename_i hv; exact .inr (by simp [boundV, hv])
    · cases h

theorem nought_bound0 {x : Option Value} (h : noughtV x = true) : boundV 0 x = some 0 := by
  rcases nought_bound h 0 with h | h <;> exact h

/-- an empty slice cut anew is empty. -/
theorem f_slice0 {f : Ren} {w : World} {t e : TypeId} {k : Nat} (hel : elemP P t = some (e, k)) {a : Option Addr} {cap' : Nat} {lo lo' hi hi' mx mx' : Option Value}
    (hlo : OV f lo lo') (hhi : OV f hi hi') (hmx : OV f mx mx') (h1 : noughtV lo = true) (h2 : noughtV hi = true) (h3 : noughtV mx = true) (h4 : mx.isSome = true → hi.isSome = true) :
    ∃ c, (c = 0 ∨ c = cap') ∧ (Instr.sliceAt t (.slice a 0 cap') lo' hi' mx').run P w = .ok (.slice a 0 c) w := by
  obtain ⟨hu, hs⟩ := elemP_eq hel
  have ha : a.map (·.add (0 * (k + 1))) = a := by cases a <;> simp [Addr.add]
  cases hmx with
  | none =>
    refine ⟨cap', .inr rfl, ?_⟩
    have := bounds_run (P := P) (w := w) (s := true) (len := 0) (cap := cap') (l := 0) (r := 0) hlo hhi (nought_bound0 h1) (nought_bound0 h2) (Nat.le_refl _) (Nat.zero_le _)
    simp only [Instr.sliceAt, Instr.slice, Sem.run_bind, run_underlying hu, Result.andThen_ok, this, run_sz hs, Sem.run_pure, ha, ite_self, Nat.sub_zero]
  | @some x x' hx =>
    refine ⟨0, .inl rfl, ?_⟩
    have hne : hi' ≠ none := by
      cases hhi with
      | none => simp at h4
      | some _ => simp
    have hxz : natV x = some 0 := by
      have := nought_bound0 h3
      exact this
    have := bounds_run3 (P := P) (w := w) (s := true) (len := 0) (cap := cap') (l := 0) (r := 0) (m := 0) hlo hhi hx (nought_bound0 h1) (nought_bound0 h2) hxz (Nat.le_refl _) (Nat.le_refl _) (Nat.zero_le _) hne
    simp only [Instr.sliceAt, Instr.slice, Sem.run_bind, run_underlying hu, Result.andThen_ok, this, run_sz hs, Sem.run_pure, ha, ite_self, Nat.sub_zero]

theorem f_sliceT {f : Ren} {w : World} {t : TypeId} {l : List UInt8} {lo lo' hi hi' mx mx' : Option Value} {fr : FR}
    (hlo : OV f lo lo') (hhi : OV f hi hi') (hmx : OV f mx mx') (he : fSliceT P t l lo hi mx = some fr) : FOK P f w ((Instr.sliceAt t (.string ⟨⟨l⟩⟩) lo' hi' mx').run P w) fr := by
  unfold fSliceT at he
  split at he
  · rename_i hu
    cases hmx
    split at he
    · rename_i a b ha hb
      split at he
      · rename_i hc
        simp only [Bool.and_eq_true] at hc
        have h1 : a ≤ b := Nat.le_of_ble_eq_true hc.1
        have h2 : b ≤ l.length := Nat.le_of_ble_eq_true hc.2
        split at he
        · rename_i r hr
          cases he
          obtain ⟨rfl, _⟩ := listTake_eq _ _ _ hr
          have := bounds_run (P := P) (w := w) (s := false) (cap := l.length) hlo hhi ha hb h1 h2
          refine ⟨_, .string _, ?_⟩
          have hsz : (ByteArray.mk ⟨l⟩).size = l.length := by simp [ByteArray.size]
          have hx : (ByteArray.mk ⟨l⟩).extract a b = ⟨⟨List.take (b - a) (listDrop a l)⟩⟩ := by
            apply ByteArray.ext
            simp [ByteArray.data_extract, listDrop_eq, List.extract_eq_take_drop]
          simp only [Instr.sliceAt, Instr.slice, Sem.run_bind, run_underlying hu, Result.andThen_ok, Option.isSome_none, Bool.false_eq_true, if_false, Sem.run_pure, hsz, this, hx]
        · cases he
      · cases he
    · cases he
  · cases he

theorem f_slice {f : Ren} {h : Mem} {n : Nat} {w : World} (hr : R P f h n w) {t : TypeId} {x x' : Value} {lo lo' hi hi' mx mx' : Option Value} {fr : FR}
    (hx : VR f x x') (hlo : OV f lo lo') (hhi : OV f hi hi') (hmx : OV f mx mx') (he : fSlice P h t x lo hi mx = some fr) :
    FOK P f w ((Instr.sliceAt t x' lo' hi' mx').run P w) fr := by
  unfold fSlice at he
  split at he
  · exact f_sliceS hr hx hlo hhi hmx he
  · split at he
    · rename_i e hel
      split at he
      · rename_i hc
        cases he
        simp only [Bool.and_eq_true] at hc
        cases hx with
        | @sliceE _ _ o' cap' L hb h0 =>
        obtain ⟨c, h1, h2⟩ := f_slice0 (P := P) (w := w) (a := some ⟨L.n, o', none⟩) (cap' := cap') hel hlo hhi hmx hc.1.1.1 hc.1.1.2 hc.1.2 (by
          intro hm; have := hc.2; simp [hm] at this; exact this)
        refine ⟨_, .sliceE hb (?_ : c = 0 ∨ _), h2⟩
        rcases h1 with h1 | h1
        · exact .inl h1
        · subst h1; exact h0
      · cases he
    · cases he
  · rename_i l c
    split at he
    · rename_i e hel
      split at he
      · rename_i hc
        cases he
        simp only [Bool.and_eq_true] at hc
        cases hx with
        | snil _ _ =>
        have hl : l = 0 := Nat.eq_of_beq_eq_true hc.1.2
        have hcz : c = 0 := Nat.eq_of_beq_eq_true hc.2
        subst hl; subst hcz
        obtain ⟨c, h1, h2⟩ := f_slice0 (P := P) (w := w) (a := none) (cap' := 0) hel hlo hhi hmx hc.1.1.1.1.1 hc.1.1.1.1.2 hc.1.1.1.2 (by
          intro hm; have := hc.1.1.2; simp [hm] at this; exact this)
        have : c = 0 := by omega
        subst this
        exact ⟨_, .snil 0 0, h2⟩
      · cases he
    · cases he
  · cases hx; exact f_sliceT hlo hhi hmx he
  · cases he

end
end Go.Proofs.YtedbjceeakmjgaaGreatDoor.Ev
