/- ShelfPlays: the program's Prune with the keep of the law. -/
import Derived.Test.YtkkamilmjaochaaPBr
namespace Go.Proofs.Ytkkamilmjaochaa
open Go.RowKit
def stL (most : Nat) (m : Int) (l L0 : List Pr) : Nat → List Pr
  | 0 => L0
  | j + 1 => match l[j]? with
    | some z => actL most m j z.v (stL most m l L0 j)
    | none => stL most m l L0 j
def stA (most : Nat) (m : Int) (l L0 : List Pr) : Nat → List As
  | 0 => []
  | j + 1 => match l[j]? with
    | some z => stA most m l L0 j ++ [asOf m j z.k z.v (stL most m l L0 j)]
    | none => stA most m l L0 j
def ansJ (n : Int) (l : List Pr) (j : Nat) : Bool := match l[j]? with | some z => ansP n z.v j | none => false
section
variable {most : Nat} {m : Int} {l L0 : List Pr}
theorem stL_succ {j : Nat} {z : Pr} (hz : l[j]? = some z) : stL most m l L0 (j + 1) = actL most m j z.v (stL most m l L0 j) := by
  show (match l[j]? with | some z => actL most m j z.v (stL most m l L0 j) | none => stL most m l L0 j) = _
  rw [hz]
theorem stA_succ {j : Nat} {z : Pr} (hz : l[j]? = some z) : stA most m l L0 (j + 1) = stA most m l L0 j ++ [asOf m j z.k z.v (stL most m l L0 j)] := by
  show (match l[j]? with | some z => stA most m l L0 j ++ [asOf m j z.k z.v (stL most m l L0 j)] | none => stA most m l L0 j) = _
  rw [hz]
theorem stA_len : ∀ j, j ≤ l.length → (stA most m l L0 j).length = j
  | 0, _ => rfl
  | j + 1, h => by
    obtain ⟨z, hz⟩ : ∃ z, l[j]? = some z := ⟨_, List.getElem?_eq_getElem h⟩
    rw [stA_succ hz, List.length_append, stA_len j (by omega)]
    rfl
theorem stL_nd (h : ND L0) : ∀ j, ND (stL most m l L0 j)
  | 0 => h
  | j + 1 => by
    cases hz : l[j]? with
    | none => show ND (match l[j]? with | some z => actL most m j z.v (stL most m l L0 j) | none => stL most m l L0 j); rw [hz]; exact stL_nd h j
    | some z => rw [stL_succ hz]; exact nd_act (stL_nd h j) _ _ _ _
theorem stL_v (h : VOk L0) : ∀ j, VOk (stL most m l L0 j)
  | 0 => h
  | j + 1 => by
    cases hz : l[j]? with
    | none => show VOk (match l[j]? with | some z => actL most m j z.v (stL most m l L0 j) | none => stL most m l L0 j); rw [hz]; exact stL_v h j
    | some z => rw [stL_succ hz]; exact v_act (stL_v h j) _ _ _ _
theorem stL_len (h : L0.length ≤ most) : ∀ j, (stL most m l L0 j).length ≤ most
  | 0 => h
  | j + 1 => by
    cases hz : l[j]? with
    | none => show (match l[j]? with | some z => actL most m j z.v (stL most m l L0 j) | none => stL most m l L0 j).length ≤ most; rw [hz]; exact stL_len h j
    | some z => rw [stL_succ hz]; exact act_len (stL_len h j) _ _ _
end
/-- of whom the keep answered false -/
def goneL (n : Int) (l : List Pr) : List KeyP := goneJ (ansJ n l) (l.map Pr.k) l.length
def TP (β : Nat) : Nat → Prop := fun y => y = β ∨ y = β + 1 ∨ y = β + 3 ∨ y = β + 6 ∨ y = β + 7 ∨ y = β + 8 ∨ y = β + 9 ∨ y = β + 13
theorem SD.shelf {T : Nat → Prop} {K K' : Nat → Nat} {w w' : World} {B β y p m r x most : Nat} {L L' D : List Pr} {A W : List As} {va vw : Value} (h : SD K w B β y p m r x most L D A W va vw) (mv : Mv T w w' K K') (ht : ∀ t, T t → t = β + 3) (hs : ∃ Lt, prs Lt = L' ∧ TS kdK K' w' (β + 3) p most m r Lt) : SD K' w' B β y p m r x most L' D A W va vw :=
  have n : ∀ j, j ≠ 3 → ¬ T (β + j) := fun j h3 e => by have := ht _ e; omega
  ⟨h.me.mv mv (n 0 (by omega)), h.ask.mv mv (n 1 (by omega)), h.was.mv mv (n 2 (by omega)), hs, h.ds.elim fun vd q => ⟨vd, q.mv mv (n 4 (by omega)) (n 5 (by omega))⟩⟩
theorem pruneK {K : Nat → Nat} {w : World} {B β y p m r x most a b : Nat} {L D : List Pr} {W : List As} {va vw : Value} (h : SD K w B β y p m r x most L D [] W va vw) (hB : B ≤ w.heap.size) (o : OpP) (ho : I64 o.m ∧ I64 o.n) (ba : TB K w (β + 14) a (.cells #[ptr y] 36)) (bb : TB K w (β + 15) b (opB o)) (hV : VOk L) :
    Calls Try.prog 60 #[ptr p, .func (.func 61) #[] #[ptr a, ptr b]] w fun e w' => e = .returned (.int .i64 (takesN (stL most o.m L L L.length) (goneL o.n L) : Nat)) ∧ ∃ K' va', SD K' w' B β y p m r x most (takesL (stL most o.m L L L.length) (goneL o.n L)) D (stA most o.m L L L.length) W va' vw ∧ TB K' w' (β + 14) a (.cells #[ptr y] 36) ∧ TB K' w' (β + 15) b (opB o) ∧ Mv (TP β) w w' K K' := by
  obtain ⟨Lt, e1, ts⟩ := h.sh
  have hln : L.length = Lt.length := by rw [← e1, prs_len]
  have hm : Lt.length ≤ 1048576 := Nat.le_trans ts.sh.len ts.sh.m20
  have hgone : goneJ (ansJ o.n L) (Lt.map Th.k) Lt.length = goneL o.n L := by unfold goneL; rw [hln, ← prs_keys, e1]
  have hget : ∀ (j : Nat) (t : Th KeyP Int), Lt[j]? = some t → L[j]? = some ⟨t.k, t.v⟩ := fun j t ht => by rw [← e1]; unfold prs; rw [List.getElem?_map, ht]; rfl
  refine (prnK_any (a := a) (b := b) ts (τ := β + 8) (σ := β + 9) (by omega) (by omega) (TK β) (by unfold TK; omega) (by unfold TK; omega)
    (fun j K w' => B ≤ w'.heap.size ∧ TB K w' (β + 14) a (.cells #[ptr y] 36) ∧ TB K w' (β + 15) b (opB o) ∧ ∃ va, SD K w' B β y p m r x most (stL most o.m L L j) D (stA most o.m L L j) W va vw) ?_ ⟨hB, ba, bb, va, h⟩ (ansJ o.n L) ?_ (stL most o.m L L L.length) ?_).mono ?_
  · rintro j K K' u v ⟨i1, i2, i3, va, i4⟩ mv
    exact ⟨Nat.le_trans i1 mv.size, i2.mv mv (by omega), i3.mv mv (by omega), va, i4.mv mv (by omega) (by omega) (by omega) (by omega) (by omega) (by omega)⟩
  · rintro j t K wk ht ⟨i1, i2, i3, va, i4⟩
    have hj : j < Lt.length := (List.getElem?_eq_some_iff.1 ht).1
    have hz := hget j t ht
    have hl : (stA most o.m L L j).length = j := stA_len j (by omega)
    refine (keepK_any i4 i1 o ho i2 i3 t.k t.v (hV _ (List.mem_of_getElem? hz)) (stL_v hV j) (by omega)).mono ?_
    rintro _ w' ⟨rfl, K', va', s, mv⟩
    rw [hl] at s ⊢
    refine ⟨by unfold ansJ; rw [hz], K', ⟨Nat.le_trans i1 mv.size, i2.mv mv (by unfold TK; omega), i3.mv mv (by unfold TK; omega), va', ?_⟩, mv⟩
    rw [stL_succ hz, stA_succ hz]
    exact s
  · rintro K w' ⟨_, _, _, va, i4⟩
    rw [← hln] at i4
    exact i4.sh
  · rintro _ w' ⟨rfl, K1, w1, K', L', ⟨i1, i2, i3, va', i4⟩, mv1, ts', hp, mv2⟩
    rw [← hln] at i4
    rw [hgone] at hp ⊢
    refine ⟨rfl, K', va', i4.shelf mv2 (fun _ h => h) ⟨L', hp, ts'⟩, i2.mv mv2 (by omega), i3.mv mv2 (by omega), (mv1.mono (fun t h => ?_)).trans (mv2.mono (fun t h => ?_))⟩
    · unfold TK at h; unfold TP; omega
    · unfold TP; omega
end Go.Proofs.Ytkkamilmjaochaa
