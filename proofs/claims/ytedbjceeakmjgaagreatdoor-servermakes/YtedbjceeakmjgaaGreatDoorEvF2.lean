/- The evaluator of closed runs: EvF2 -/
import Derived.Test.YtedbjceeakmjgaaGreatDoorEvF1
namespace Go.Proofs.YtedbjceeakmjgaaGreatDoor.Ev
set_option linter.unusedSimpArgs false

section
variable {P : Program}

/- parts laid into a value -/

theorem put_len : ∀ (l : List Value) (o : Nat) (vs : List Value), (layL.put l o vs).length = l.length
  | [], o, [] => by simp [layL.put]
  | [], o, v :: vs => by simp [layL.put]
  | a :: l, o, [] => by simp [layL.put]
  | a :: l, 0, v :: vs => by simp [layL.put, put_len l 0 vs]
  | a :: l, o + 1, v :: vs => by simp [layL.put, put_len l o (v :: vs)]

theorem put_at : ∀ (l : List Value) (o : Nat) (vs : List Value) (i : Nat), (layL.put l o vs)[i]? = if o ≤ i ∧ i < o + vs.length ∧ i < l.length then vs[i - o]? else l[i]?
  | [], o, [], i => by simp [layL.put]
  | [], o, v :: vs, i => by simp [layL.put]
  | a :: l, o, [], i => by
    simp only [layL.put, List.length_nil, Nat.add_zero]
    rw [if_neg (by omega)]
  | a :: l, 0, v :: vs, i => by
    cases i with
    | zero => simp [layL.put]
    | succ i =>
      simp only [layL.put, List.getElem?_cons_succ, put_at l 0 vs i, List.length_cons, Nat.sub_zero]
      by_cases h : i < vs.length ∧ i < l.length
      · rw [if_pos (by omega), if_pos (by omega)]
      · rw [if_neg (by omega), if_neg (by omega)]
  | a :: l, o + 1, v :: vs, i => by
    cases i with
    | zero => simp [layL.put]
    | succ i =>
      simp only [layL.put, List.getElem?_cons_succ, put_at l o (v :: vs) i, List.length_cons]
      by_cases h : o ≤ i ∧ i < o + (vs.length + 1) ∧ i < l.length
      · rw [if_pos (by omega), if_pos (by omega), show i + 1 - (o + 1) = i - o by omega]
      · rw [if_neg (by omega), if_neg (by omega)]

theorem fold_at (off : Nat) : ∀ (vs : List Value) (k : Nat) (cs : Array Value) (i : Nat),
    ((vs.zipIdx k).foldl (fun (cs : Array Value) (x : Value × Nat) => cs.setIfInBounds (off + x.2) x.1) cs)[i]? =
      if off + k ≤ i ∧ i < off + k + vs.length ∧ i < cs.size then vs[i - (off + k)]? else cs[i]?
  | [], k, cs, i => by
    simp only [List.zipIdx_nil, List.foldl_nil, List.length_nil, Nat.add_zero]
    rw [if_neg (by omega)]
  | v :: vs, k, cs, i => by
    simp only [List.zipIdx_cons, List.foldl_cons, fold_at off vs (k + 1), List.length_cons, Array.size_setIfInBounds]
    by_cases h1 : i = off + k
    · subst h1
      rw [if_neg (by omega)]
      by_cases h2 : off + k < cs.size
      · rw [if_pos (by omega), Array.getElem?_setIfInBounds_self_of_lt h2]; simp
      · rw [if_neg (by omega), Array.getElem?_eq_none (by simp; omega), Array.getElem?_eq_none (by omega)]
    · rw [Array.getElem?_setIfInBounds_ne (by omega)]
      by_cases h2 : off + k ≤ i ∧ i < off + k + (vs.length + 1) ∧ i < cs.size
      · rw [if_pos (by omega), if_pos h2, show i - (off + k) = i - (off + (k + 1)) + 1 by omega]; simp
      · rw [if_neg (by omega), if_neg h2]

theorem fold_put (off : Nat) (vs l : List Value) :
    (vs.zipIdx).foldl (fun (cs : Array Value) (x : Value × Nat) => cs.setIfInBounds (off + x.2) x.1) ⟨l⟩ = ⟨layL.put l off vs⟩ := by
  apply Array.ext_getElem?
  intro i
  rw [fold_at off vs 0 ⟨l⟩ i]
  simp only [Nat.add_zero, List.getElem?_toArray, List.size_toArray, put_at]

theorem VL.put {f : Ren} : ∀ {l l' : List Value}, VL f l l' → ∀ (o : Nat) {vs vs' : List Value}, VL f vs vs' → VL f (layL.put l o vs) (layL.put l' o vs') := by
  intro l l' h
  induction h with
  | nil => intro o vs vs' k; cases k <;> simp [layL.put] <;> exact .nil
  | cons h t ih =>
    intro o vs vs' k
    cases k with
    | nil => simp only [layL.put]; exact .cons h t
    | cons a b =>
      cases o with
      | zero => simp only [layL.put]; exact .cons a (ih 0 b)
      | succ o => simp only [layL.put]; exact .cons h (ih o (.cons a b))

/-- rows of parts. -/
inductive PL (f : Ren) : List (Nat × Value) → List (Nat × Value) → Prop
  | nil : PL f [] []
  | cons (i : Nat) {v v' : Value} {l l' : List (Nat × Value)} (h : VR f v v') (t : PL f l l') : PL f ((i, v) :: l) ((i, v') :: l')

theorem lay_fill {f : Ren} {place : Nat → Option (Nat × Nat)} : ∀ {ps ps' : List (Nat × Value)}, PL f ps ps' → ∀ {l l' r : List Value}, VL f l l' → layL place l ps = some r →
    ∃ r', VL f r r' ∧ Instr.fill place ⟨l'⟩ ps' = some ⟨r'⟩ := by
  intro ps ps' hp
  induction hp with
  | nil => intro l l' r hl h; simp [layL] at h; subst h; exact ⟨l', hl, by simp [Instr.fill]⟩
  | @cons i v v' ps ps' hv t ih =>
    intro l l' r hl h
    simp only [layL] at h
    split at h
    · rename_i off size hpl
      simp only [layL.layC] at h
      split at h
      · rename_i hc
        simp only [Bool.and_eq_true] at hc
        have h1 : (cellsA v).length = size := Nat.eq_of_beq_eq_true hc.1
        have h2 : off + (cellsA v).length ≤ l.length := Nat.le_of_ble_eq_true hc.2
        have hcl := hv.cells
        obtain ⟨r', k1, k2⟩ := ih (hl.put off hcl) h
        refine ⟨r', k1, ?_⟩
        have e1 : v'.cells.size = size := by rw [cellsA_eq]; simp [← hcl.len, h1]
        have e2 : ¬ (off + v'.cells.size > (⟨l'⟩ : Array Value).size) := by
          simp only [List.size_toArray, ← hl.len, e1]; omega
        simp only [Instr.fill, hpl]
        rw [if_neg (by simp only [Bool.or_eq_true, decide_eq_true_eq, ne_eq, bne_iff_ne]; simp only [e1]; simp only [e1] at e2; simpa using e2)]
        rw [← k2]
        congr 1
        rw [cellsA_eq]
        rw [← Array.foldl_toList, Array.toList_zipIdx]
        exact fold_put off (cellsA v') l'
      · cases h
    · cases h

theorem rep_len {α : Type} (l : List α) : ∀ n, (rep l n).length = n * l.length
  | 0 => by simp [rep]
  | n + 1 => by simp [rep, rep_len l n, Nat.add_mul, Nat.add_comm]

theorem rep_at {α : Type} (l : List α) : ∀ (n i : Nat), (rep l n)[i]? = if i < n * l.length then l[i % l.length]? else none
  | 0, i => by simp [rep]
  | n + 1, i => by
    simp only [rep, List.getElem?_append, rep_at l n]
    by_cases h : i < l.length
    · rw [if_pos h, if_pos (by rw [Nat.add_mul]; omega), Nat.mod_eq_of_lt h]
    · rw [if_neg h]
      have hm : (i - l.length) % l.length = i % l.length := by
        rw [← Nat.mod_eq_sub_mod (by omega)]
      by_cases h2 : i < (n + 1) * l.length
      · rw [if_pos h2, if_pos (by rw [Nat.add_mul] at h2; omega), hm]
      · rw [if_neg h2, if_neg (by rw [Nat.add_mul] at h2; omega)]

/-- the model's rows of the same cells, over and over. -/
theorem zeros_eq (z : List Value) (n k : Nat) (hz : z.length = k) (hk : 0 < k) :
    ((Array.range (n * k)).map fun i => (⟨z⟩ : Array Value)[i % (⟨z⟩ : Array Value).size]!) = ⟨rep z n⟩ := by
  apply Array.ext_getElem?
  intro i
  simp only [Array.getElem?_map, List.getElem?_toArray, rep_at, List.size_toArray, hz]
  by_cases h : i < n * k
  · rw [if_pos h]
    have hm : i % k < z.length := by rw [hz]; exact Nat.mod_lt _ hk
    simp [Array.getElem?_range, h, hm, List.getElem?_eq_getElem hm]
  · rw [if_neg h]
    simp [Array.getElem?_range, h]

theorem rep_VL {f : Ren} {z : List Value} (hz : VL f z z) : ∀ n, VL f (rep z n) (rep z n)
  | 0 => .nil
  | n + 1 => hz.append (rep_VL hz n)

theorem mapM_places (w : World) : ∀ (fs : List Field), (fs.all (fun f => (sizeP P f.type).isSome)) = true →
    (fs.mapM (fun f => (do pure (f.offset, ← sizeOf f.type) : Sem (Nat × Nat)))).run P w = .ok (fs.map fun f => (f.offset, (sizeP P f.type).getD 0)) w
  | [], _ => by simp
  | x :: fs, h => by
    simp only [List.all_cons, Bool.and_eq_true] at h
    obtain ⟨n, hn⟩ := Option.isSome_iff_exists.1 h.1
    have ih := mapM_places w fs h.2
    simp only [List.mapM_cons, Sem.run_bind, run_sz hn, Result.andThen_ok, Sem.run_pure, ih, List.map_cons, hn, Option.getD_some]

theorem places_eq (fs : Array Field) (i : Nat) : ((fs.map fun f => (f.offset, (sizeP P f.type).getD 0)) : Array (Nat × Nat))[i]? =
    match fs[i]? with
    | some f => some (f.offset, (sizeP P f.type).getD 0)
    | none => none := by
  rw [Array.getElem?_map]
  cases fs[i]? <;> rfl

theorem f_build {f : Ren} {w : World} {t : TypeId} {ps ps' : List (Nat × Value)} {fr : FR} (hp : PL f ps ps') (he : fBuild P t ps = some fr) :
    FOK P f w ((Instr.build t ⟨ps'⟩).run P w) fr := by
  unfold fBuild at he
  split at he
  · rename_i z hz
    split at he
    · rename_i hg
      have hzl : VL f (cellsA z) (cellsA z) := (vr_ground 3 z hg).cells
      split at he
      · rename_i fs hu
        split at he
        · rename_i hall
          split at he
          · rename_i l hl
            cases he
            have hpe : (fun i => ((fs.map fun f => (f.offset, (sizeP P f.type).getD 0)) : Array (Nat × Nat))[i]?) = placesP P fs := by
              funext i
              rw [places_eq]
              unfold placesP
              cases hi : fs[i]? with
              | none => rfl
              | some x =>
                have hx : x ∈ fs.toList := by
                  have := Array.mem_of_getElem? hi
                  simpa using this
                have := (List.all_eq_true.1 hall) x hx
                obtain ⟨n, hn⟩ := Option.isSome_iff_exists.1 this
                simp [hn]
            obtain ⟨r', k1, k2⟩ := lay_fill hp hzl hl
            refine ⟨.agg ⟨r'⟩, .agg' k1, ?_⟩
            have hm := mapM_places (P := P) w fs.toList hall
            simp only [Instr.build, Sem.run_bind, run_zv hz, Result.andThen_ok, run_underlying hu, Array.mapM_eq_mapM_toList, Sem.run_map, hm, cellsA_eq]
            have hp2 : (fs.toList.map fun f => (f.offset, (sizeP P f.type).getD 0)).toArray = (fs.map fun f => (f.offset, (sizeP P f.type).getD 0)) := by
              apply Array.ext'; simp
            rw [hp2, hpe, k2]
            rfl
          · cases he
        · cases he
      · rename_i m e hu
        split at he
        · rename_i n hn
          split at he
          · rename_i l hl
            cases he
            obtain ⟨r', k1, k2⟩ := lay_fill hp hzl hl
            refine ⟨.agg ⟨r'⟩, .agg' k1, ?_⟩
            simp only [Instr.build, Sem.run_bind, run_zv hz, Result.andThen_ok, run_underlying hu, run_sz hn, cellsA_eq, k2]
            rfl
          · cases he
        · cases he
      · cases he
    · cases he
  · cases he

theorem f_buildSlice {f : Ren} {w : World} {t : TypeId} {len : Nat} {ps ps' : List (Nat × Value)} {fr : FR} (hp : PL f ps ps') (he : fBuildSlice P t len ps = some fr) :
    FOK P f w ((Instr.buildSlice t len ⟨ps'⟩).run P w) fr := by
  unfold fBuildSlice at he
  split at he
  · rename_i e n hel
    obtain ⟨hu, hs⟩ := elemP_eq hel
    split at he
    · rename_i z hz
      split at he
      · rename_i hc
        simp only [Bool.and_eq_true] at hc
        obtain ⟨⟨hg, hle⟩, hlen⟩ := hc
        have hlen' : (cellsA z).length = n + 1 := Nat.eq_of_beq_eq_true hlen
        have hle' : len * (n + 1) ≤ 16777216 := Nat.le_of_ble_eq_true hle
        have hzl : VL f (cellsA z) (cellsA z) := (vr_ground 3 z hg).cells
        split at he
        · rename_i l hl
          cases he
          obtain ⟨r', k1, k2⟩ := lay_fill hp (rep_VL hzl len) hl
          have hll : l.length = len * (n + 1) := by
            have : ∀ (ps : List (Nat × Value)) (l r : List Value), layL (fun i => some (i * (n + 1), n + 1)) l ps = some r → r.length = l.length := by
              intro ps
              induction ps with
              | nil => intro l r h; simp [layL] at h; rw [h]
              | cons p ps ih =>
                intro l r h
                obtain ⟨i, v⟩ := p
                simp only [layL] at h
                split at h
                · rw [ih _ _ h, put_len]
                · cases h
            rw [this _ _ _ hl, rep_len, hlen']
          have hlr : r'.length = len * (n + 1) := by rw [← k1.len, hll]
          refine ⟨r', len, { w with heap := w.heap.push (.cells ⟨r'⟩ e) }, (0, 0), ?_, rfl, ⟨rfl, rfl, rfl⟩, ⟨n + 1, hs, Nat.le_refl _, fun _ => ⟨rfl, by omega⟩, fun _ => by omega⟩, fun j _ => by omega, by omega, fun i v hv => k1.ex hv⟩
          have hb : ¬ (len * (n + 1) > 2 ^ 24) := by
            have : (2 : Nat) ^ 24 = 16777216 := by decide
            omega
          by_cases h0 : len * (n + 1) = 0
          · have : len = 0 := by
              rcases Nat.mul_eq_zero.1 h0 with h | h
              · exact h
              · omega
            subst this
            simp only [rep] at k2
            simp only [Instr.buildSlice, Sem.run_bind, run_underlying hu, Result.andThen_ok, run_sz hs, hb, if_false, Sem.run_pure, h0, if_true]
            have hr : ∀ g : Nat → Value, Array.map g (Array.range 0) = ⟨[]⟩ := fun g => by simp
            simp only [gt_iff_lt, Nat.not_lt_zero, if_false, hr, k2, newRow, Sem.run_bind, Sem.run_pure, Result.andThen_ok, run_newObj]
          · have hrow := zeros_eq (cellsA z) len (n + 1) hlen' (Nat.succ_pos n)
            simp only [Instr.buildSlice, Sem.run_bind, run_underlying hu, Result.andThen_ok, run_sz hs, hb, if_false, Sem.run_pure, h0, run_zv hz, cellsA_eq, hrow, k2, newRow, run_newObj]
        · cases he
      · cases he
    · cases he
  · cases he

end
end Go.Proofs.YtedbjceeakmjgaaGreatDoor.Ev
