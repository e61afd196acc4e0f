/- ShelfPlays, plainly: what a shelf does; the program's, and the document's, do that. -/
import Derived.Test.YtkkamilmjaochaaPBf
namespace Go.Proofs.Ytkkamilmjaochaa
open Go.RowKit
def hasK (L : List Pr) (k : KeyP) : Bool := L.any fun y => decide (y.k = k)
def dropL (L : List Pr) (k : KeyP) : List Pr := L.filter fun y => !decide (y.k = k)
def putL (most : Nat) (L : List Pr) (k : KeyP) (v : Int) : List Pr := if hasK L k then L.map fun y => if y.k = k then ⟨k, v⟩ else y else if L.length < most then L ++ [⟨k, v⟩] else L
def putC (most : Nat) (L : List Pr) (k : KeyP) : Int := if hasK L k then 0 else if L.length < most then 0 else 140
def dropC (L : List Pr) (k : KeyP) : Int := if hasK L k then 0 else 141
def getL (L : List Pr) (k : KeyP) : Int := ((L.find? fun y => decide (y.k = k)).map Pr.v).getD 0
abbrev ND (L : List Pr) : Prop := (L.map Pr.k).Nodup
theorem hasK_no {L : List Pr} {k : KeyP} (h : ∀ y ∈ L, y.k ≠ k) : hasK L k = false := by
  unfold hasK
  rw [List.any_eq_false]
  intro y hy
  simp [h y hy]
theorem hasK_yes {L1 L2 : List Pr} {y : Pr} : hasK (L1 ++ y :: L2) y.k = true := by
  unfold hasK
  rw [List.any_eq_true]
  exact ⟨y, by simp, by simp⟩
theorem nd_split {L1 L2 : List Pr} {y : Pr} (h : ND (L1 ++ y :: L2)) : (∀ z ∈ L1, z.k ≠ y.k) ∧ ∀ z ∈ L2, z.k ≠ y.k := by
  unfold ND at h
  rw [List.map_append, List.map_cons] at h
  have hp := List.perm_middle.nodup_iff.1 h
  obtain ⟨h1, _⟩ := List.nodup_cons.1 hp
  rw [← List.map_append] at h1
  constructor
  · intro z hz e
    exact h1 (List.mem_map.2 ⟨z, by simp [hz], e⟩)
  · intro z hz e
    exact h1 (List.mem_map.2 ⟨z, by simp [hz], e⟩)
theorem map_id' {L : List Pr} {k : KeyP} {v : Int} (h : ∀ z ∈ L, z.k ≠ k) : L.map (fun y => if y.k = k then (⟨k, v⟩ : Pr) else y) = L := by
  rw [List.map_congr_left (g := id) (fun z hz => by simp [h z hz])]
  simp
theorem filt_id {L : List Pr} {k : KeyP} (h : ∀ z ∈ L, z.k ≠ k) : L.filter (fun y => !decide (y.k = k)) = L := by
  refine List.filter_eq_self.2 fun z hz => ?_
  simp [h z hz]
theorem putL_old {L1 L2 : List Pr} {y : Pr} (most : Nat) (v : Int) (h : ND (L1 ++ y :: L2)) : putL most (L1 ++ y :: L2) y.k v = L1 ++ ⟨y.k, v⟩ :: L2 := by
  obtain ⟨h1, h2⟩ := nd_split h
  unfold putL
  rw [hasK_yes, if_pos rfl, List.map_append, List.map_cons, map_id' h1, map_id' h2, if_pos rfl]
theorem dropL_some {L1 L2 : List Pr} {y : Pr} (h : ND (L1 ++ y :: L2)) : dropL (L1 ++ y :: L2) y.k = L1 ++ L2 := by
  obtain ⟨h1, h2⟩ := nd_split h
  unfold dropL
  rw [List.filter_append, List.filter_cons, filt_id h1, filt_id h2]
  simp
theorem dropL_none {L : List Pr} {k : KeyP} (h : ∀ y ∈ L, y.k ≠ k) : dropL L k = L := filt_id h
theorem getL_some {L1 L2 : List Pr} {y : Pr} (h : ND (L1 ++ y :: L2)) : getL (L1 ++ y :: L2) y.k = y.v := by
  obtain ⟨h1, _⟩ := nd_split h
  unfold getL
  rw [List.find?_append, List.find?_eq_none.2 (fun z hz => by simp [h1 z hz])]
  simp
theorem getL_none {L : List Pr} {k : KeyP} (h : ∀ y ∈ L, y.k ≠ k) : getL L k = 0 := by
  unfold getL
  rw [List.find?_eq_none.2 (fun z hz => by simp [h z hz])]
  rfl
theorem nd_drop {L : List Pr} (h : ND L) (k : KeyP) : ND (dropL L k) := List.Nodup.sublist (List.Sublist.map _ List.filter_sublist) h
theorem nd_put {L : List Pr} (h : ND L) (most : Nat) (k : KeyP) (v : Int) : ND (putL most L k v) := by
  unfold putL
  cases hk : hasK L k
  · simp only [Bool.false_eq_true, if_false]
    split
    · unfold ND
      rw [List.map_append]
      refine List.nodup_append.2 ⟨h, by simp, ?_⟩
      intro a ha b hb
      simp at hb
      subst hb
      intro e
      obtain ⟨y, hy, e2⟩ := List.mem_map.1 ha
      have : hasK L b = true := by
        unfold hasK
        rw [List.any_eq_true]
        exact ⟨y, hy, by rw [e2, e]; simp⟩
      rw [hk] at this
      cases this
    · exact h
  · rw [if_pos rfl]
    unfold ND
    rw [List.map_map]
    have : (Pr.k ∘ fun y => if y.k = k then (⟨k, v⟩ : Pr) else y) = Pr.k := by
      funext y
      simp only [Function.comp]
      split
      · rename_i e; exact e.symm
      · rfl
    rw [this]
    exact h
theorem put_len {L : List Pr} {most : Nat} (h : L.length ≤ most) (k : KeyP) (v : Int) : (putL most L k v).length ≤ most := by
  unfold putL
  split
  · simpa using h
  · split
    · simp; omega
    · exact h
theorem drop_len (L : List Pr) (k : KeyP) : (dropL L k).length ≤ L.length := List.length_filter_le _ _
/-- the program's things as pairs -/
def prs (L : List (Th KeyP Int)) : List Pr := L.map fun t => ⟨t.k, t.v⟩
theorem prs_keys (L : List (Th KeyP Int)) : (prs L).map Pr.k = L.map Th.k := by simp [prs]
theorem prs_len (L : List (Th KeyP Int)) : (prs L).length = L.length := by simp [prs]
theorem prs_no {L : List (Th KeyP Int)} {k : KeyP} (h : ∀ t ∈ L, t.k ≠ k) : ∀ y ∈ prs L, y.k ≠ k := by
  intro y hy
  obtain ⟨t, ht, rfl⟩ := List.mem_map.1 hy
  exact h t ht
abbrev KOk (k : KeyP) : Prop := k.s.size ≤ maxLen ∧ (Lit.int .i64 k.n).wf = true
section
variable {w : World} {p most m r : Nat} {L : List (Th KeyP Int)}
theorem split_k (L : List (Th KeyP Int)) (k : KeyP) : (∀ t ∈ L, t.k ≠ k) ∨ ∃ A t B, L = A ++ t :: B ∧ t.k = k := by
  by_cases h : ∃ t ∈ L, t.k = k
  · obtain ⟨t, ht, e⟩ := h
    obtain ⟨A, B, hL⟩ := List.append_of_mem ht
    exact .inr ⟨A, t, B, hL, e⟩
  · exact .inl fun t ht e => h ⟨t, ht, e⟩
theorem SH.nd' (h : SH kdK w p most m r L) : ND (prs L) := by unfold ND; rw [prs_keys]; exact h.kd
theorem putK_any (h : SH kdK w p most m r L) (k : KeyP) (hk : KOk k) (v : Int) : Calls Try.prog 39 #[ptr p, keyV k, .int .i64 v] w fun e w' => e = .returned (.int .i64 (putC most (prs L) k)) ∧ ∃ L', prs L' = putL most (prs L) k v ∧ SH kdK w' p most m r L' ∧ Chg (foot p m r L) (foot p m r L') w w' := by
  have hnd := h.nd'
  rcases split_k L k with hno | ⟨A, t, B, rfl, rfl⟩
  · have hh := hasK_no (prs_no hno)
    by_cases hl : L.length < most
    · refine (putK_new h k v hk hno hl).mono ?_
      rintro e w' ⟨b, rfl, hs, hc⟩
      refine ⟨by unfold putC; rw [hh, prs_len]; simp [hl], _, ?_, hs, hc⟩
      unfold putL; rw [hh, prs_len]; simp [hl, prs]
    · have hl2 : L.length = most := by have := h.len; omega
      refine (putK_full h k v hk hno hl2).mono ?_
      rintro e w' ⟨rfl, hs, hc⟩
      refine ⟨by unfold putC; rw [hh, prs_len]; simp [hl], _, ?_, hs, hc⟩
      unfold putL; rw [hh, prs_len]; simp [hl]
  · have e1 : prs (A ++ t :: B) = prs A ++ ⟨t.k, t.v⟩ :: prs B := by simp [prs]
    have hh : hasK (prs (A ++ t :: B)) t.k = true := by rw [e1]; exact hasK_yes (y := ⟨t.k, t.v⟩)
    refine (putK_some h v).mono ?_
    rintro e w' ⟨rfl, hs, hc⟩
    refine ⟨by unfold putC; rw [hh, if_pos rfl], _, ?_, hs, hc⟩
    rw [e1] at hnd ⊢
    rw [putL_old (y := ⟨t.k, t.v⟩) most v hnd]
    simp [prs]
theorem dropK_any (h : SH kdK w p most m r L) (k : KeyP) (hk : KOk k) : Calls Try.prog 43 #[ptr p, keyV k] w fun e w' => e = .returned (.int .i64 (dropC (prs L) k)) ∧ ∃ L', prs L' = dropL (prs L) k ∧ SH kdK w' p most m r L' ∧ Chg (foot p m r L) (foot p m r L') w w' := by
  have hnd := h.nd'
  rcases split_k L k with hno | ⟨A, t, B, rfl, rfl⟩
  · refine (dropK_none h k hk hno).mono ?_
    rintro e w' ⟨rfl, hb⟩
    exact ⟨by unfold dropC; rw [hasK_no (prs_no hno)]; rfl, L, (dropL_none (prs_no hno)).symm, h.below hb, Chg.of_below _ hb⟩
  · have e1 : prs (A ++ t :: B) = prs A ++ ⟨t.k, t.v⟩ :: prs B := by simp [prs]
    have hh : hasK (prs (A ++ t :: B)) t.k = true := by rw [e1]; exact hasK_yes (y := ⟨t.k, t.v⟩)
    refine (dropK_some h).mono ?_
    rintro e w' ⟨rfl, hs, hc⟩
    refine ⟨by unfold dropC; rw [hh, if_pos rfl], _, ?_, hs, hc⟩
    rw [e1] at hnd ⊢
    rw [dropL_some (y := ⟨t.k, t.v⟩) hnd]
    simp [prs]
theorem getK_any (h : SH kdK w p most m r L) (k : KeyP) (hk : KOk k) : Calls Try.prog 41 #[ptr p, keyV k] w fun e w' => e = .returned (.tuple #[.int .i64 (getL (prs L) k), .bool (hasK (prs L) k)]) ∧ Below w.heap.size w w' := by
  have hnd := h.nd'
  rcases split_k L k with hno | ⟨A, t, B, rfl, rfl⟩
  · have := getK_none h k hk hno
    rw [getL_none (prs_no hno), hasK_no (prs_no hno)]
    exact this
  · have e1 : prs (A ++ t :: B) = prs A ++ ⟨t.k, t.v⟩ :: prs B := by simp [prs]
    have := getK_some h (t := t) (by simp)
    rw [e1] at hnd ⊢
    rw [getL_some (y := ⟨t.k, t.v⟩) hnd, hasK_yes (y := ⟨t.k, t.v⟩)]
    exact this
end
/-- the document's -/
theorem putR_is {most : Nat} {L L' : List Pr} {k : KeyP} {v c : Int} (h : PutR most L k v c L') (hnd : ND L) : c = putC most L k ∧ L' = putL most L k v := by
  cases h with
  | old L1 L2 y hL hy =>
    subst hL hy
    exact ⟨by unfold putC; rw [hasK_yes, if_pos rfl], (putL_old most v hnd).symm⟩
  | full hno hl =>
    have hh := hasK_no hno
    exact ⟨by unfold putC; rw [hh]; simp; omega, by unfold putL; rw [hh]; simp; omega⟩
  | new hno hl =>
    have hh := hasK_no hno
    exact ⟨by unfold putC; rw [hh]; simp [hl], by unfold putL; rw [hh]; simp [hl]⟩
theorem dropR_is {L L' : List Pr} {k : KeyP} {c : Int} (h : DropR L k c L') (hnd : ND L) : c = dropC L k ∧ L' = dropL L k := by
  cases h with
  | none hno => exact ⟨by unfold dropC; rw [hasK_no hno]; rfl, (dropL_none hno).symm⟩
  | some L1 L2 y hL hy _ =>
    subst hL hy
    exact ⟨by unfold dropC; rw [hasK_yes, if_pos rfl], (dropL_some hnd).symm⟩
theorem getP_is {L : List Pr} {k : KeyP} {v : Int} {b : Bool} (h : getP L k v b) (hnd : ND L) : v = getL L k ∧ b = hasK L k := by
  rcases h with ⟨rfl, rfl, hno⟩ | ⟨L1, L2, y, hL, hy, rfl, rfl⟩
  · exact ⟨(getL_none hno).symm, (hasK_no hno).symm⟩
  · subst hL hy
    exact ⟨(getL_some hnd).symm, hasK_yes.symm⟩
end Go.Proofs.Ytkkamilmjaochaa
