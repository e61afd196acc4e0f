/- The evaluator of closed runs: EvF1 -/
import Derived.Test.YtedbjceeakmjgaaGreatDoorEvW
import Derived.Laws.Cells
import Derived.ChangeKeysEq
namespace Go.Proofs.YtedbjceeakmjgaaGreatDoor.Ev
set_option linter.unusedSimpArgs false

section
variable {P : Program}

theorem run_sz {t : TypeId} {n : Nat} (h : sizeP P t = some n) (w : World) : (sizeOf t).run P w = .ok n w := by
  unfold sizeP at h
  split at h
  · rename_i i hi
    cases h
    simp [sizeOf, run_typeInfo w hi]
  · cases h

theorem run_zv {t : TypeId} {z : Value} (h : zeroP P t = some z) (w : World) : (zeroValue t).run P w = .ok z w := by
  unfold zeroP at h
  split at h
  · rename_i i hi
    simp [zeroValue, run_typeInfo w hi, h]
  · cases h

theorem run_ag {t : TypeId} {b : Bool} (h : aggP P t = some b) (w : World) : (isAgg t).run P w = .ok b w := by
  unfold aggP at h
  split at h
  · rename_i hu; cases h; simp [isAgg, run_underlying hu]
  · rename_i hu; cases h; simp [isAgg, run_underlying hu]
  · rename_i d h1 h2 hu
    cases h
    simp only [isAgg, Sem.run_bind, run_underlying hu, Result.andThen_ok]
    cases d <;> first | rfl | exact (h1 _ rfl).elim | exact (h2 _ _ rfl).elim
  · cases h

/-- what an operation that changes nothing, or makes a block of its own, comes to. -/
def FOK (P : Program) (f : Ren) (w : World) (r : Result Value) : FR → Prop
  | .val v => ∃ v', VR f v v' ∧ r = .ok v' w
  | .ptr l e => ∃ l', VL f l l' ∧ r = .ok (.pointer (some ⟨w.heap.size, 0, none⟩)) { w with heap := w.heap.push (.cells ⟨l'⟩ e) }
  | .row len cap l e => ∃ l' cap' w' fr, r = .ok (.slice (some ⟨w.heap.size, 0, none⟩) len cap') w' ∧ w'.heap = w.heap.push (.cells ⟨l'⟩ e fr) ∧
      (w'.tape = w.tape ∧ w'.os = w.os ∧ w'.output = w.output) ∧
      (∃ z, sizeP P e = some z ∧ len ≤ cap' ∧ (cap ≠ 0 → cap' = cap ∧ cap * z ≤ l'.length) ∧ (cap = 0 → cap' * z = l'.length)) ∧
      (∀ j, j < l'.length → ¬ (fr.1 ≤ j ∧ j < fr.2)) ∧ l.length ≤ l'.length ∧ ∀ (i : Nat) v, l[i]? = some v → ∃ v', l'[i]? = some v' ∧ VR f v v'
  | .newMap => r = .ok (.map (some w.heap.size)) { w with heap := w.heap.push (.map #[] 0) }

theorem fok_ans {f : Ren} {w : World} {r : Result Value} {x : Option Value} {fr : FR} (h : ansV x = some fr) (hx : ∀ v, x = some v → ∃ v', VR f v v' ∧ r = .ok v' w) :
    FOK P f w r fr := by
  unfold ansV at h
  split at h
  · cases h; exact hx _ rfl
  · cases h

/- loads -/

theorem getW_eq {h : Mem} {b : Nat} {c : T Value} {sz : Nat} {e : TypeId} (hg : getW h b = some (c, sz, e)) : h.get b = some (.cells c sz e) := by
  unfold getW at hg
  split at hg
  · cases hg; assumption
  · cases hg

/-- the cells of a block as the abstract memory has them. -/
theorem R.cells {f : Ren} {h : Mem} {n : Nat} {w : World} (hr : R P f h n w) {b : Nat} {L : Loc} {c : T Value} {sz : Nat} {e : TypeId} (hb : f b = some L)
    (hg : getW h b = some (c, sz, e)) : ∃ c' fr, w.heap[L.n]? = some (.cells c' e fr) ∧ c'.size = L.C ∧ sz + L.sh ≤ L.C ∧ (∀ j, j < L.C → ¬ (fr.1 ≤ j ∧ j < fr.2)) ∧
      (∀ z, sizeP P e = some z → z = L.sz) ∧ ∀ i v, i < sz → c.get i = some v → ∃ v', c'[i + L.sh]? = some v' ∧ VR f v v' := hr.obj b L _ hb (getW_eq hg)

theorem rdCells_succ (c : T Value) (sz o n : Nat) : rdCells c sz o (n + 1) = rdStep c sz o fun o => rdCells c sz o n := rfl

theorem rdCells_at : ∀ (n : Nat) {c : T Value} {sz o : Nat} {l : List Value}, rdCells c sz o n = some l → l.length = n ∧ (n ≠ 0 → o + n ≤ sz) ∧ ∀ (i : Nat) v, l[i]? = some v → c.get (o + i) = some v
  | 0, c, sz, o, l, h => by cases h; simp
  | n + 1, c, sz, o, l, h => by
    rw [rdCells_succ] at h
    unfold rdStep at h
    split at h
    · rename_i hlt
      split at h
      · rename_i v hv
        split at h
        · rename_i r hr
          cases h
          obtain ⟨h1, h2, h3⟩ := rdCells_at n hr
          have hlt' : o < sz := by
            have := Nat.le_of_ble_eq_true hlt
            exact this
          refine ⟨by simp [h1], fun _ => ?_, fun i x hx => ?_⟩
          · by_cases hn : n = 0
            · omega
            · have := h2 hn; omega
          · cases i with
            | zero => simp at hx; subst hx; simpa using hv
            | succ i =>
              simp at hx
              have := h3 i x hx
              rwa [show o + (i + 1) = o.succ + i by omega]
        · cases h
      · cases h
    · cases h

theorem cell_of {w : World} {b o : Nat} {c' : Array Value} {e : TypeId} {fr : Nat × Nat} {v : Value} (hb : w.heap[b]? = some (.cells c' e fr)) (hv : c'[o]? = some v) :
    w.cell? ⟨b, o, none⟩ = some v := by
  simp [World.cell?, hb, hv]

theorem addr_add (b o n : Nat) : (Addr.mk b o none).add n = ⟨b, o + n, none⟩ := by
  unfold Addr.add
  split
  · rename_i h; subst h; rfl
  · rfl

/-- cells read are what they should be. -/
theorem R.rd {f : Ren} {h : Mem} {n : Nat} {w : World} (hr : R P f h n w) {b : Nat} {L : Loc} {c : T Value} {sz o k : Nat} {e : TypeId} {l : List Value} (hb : f b = some L)
    (hg : getW h b = some (c, sz, e)) (hl : rdCells c sz o k = some l) :
    ∃ l', VL f l l' ∧ l'.length = k ∧ (loadCells ⟨L.n, o + L.sh, none⟩ k).run P w = .ok ⟨l'⟩ w := by
  obtain ⟨c', fr, h1, h2, h3, h4, h5, h6⟩ := hr.cells hb hg
  obtain ⟨k1, k2, k3⟩ := rdCells_at k hl
  have hex : ∀ i, i < k → ∃ v v', l[i]? = some v ∧ c'[o + i + L.sh]? = some v' ∧ VR f v v' := by
    intro i hi
    have hi' : i < l.length := by omega
    have hv := List.getElem?_eq_getElem hi'
    have := k2 (by omega)
    obtain ⟨v', a1, a2⟩ := h6 (o + i) _ (by omega) (k3 i _ hv)
    exact ⟨_, v', hv, a1, a2⟩
  let l' : List Value := (List.range k).map fun i => (c'[o + i + L.sh]?).getD undef
  have hl' : ∀ (i : Nat) v', l'[i]? = some v' → i < k ∧ v' = (c'[o + i + L.sh]?).getD undef := by
    intro i v' hv'
    simp only [l', List.getElem?_map] at hv'
    by_cases hi : i < k
    · rw [List.getElem?_range hi] at hv'
      simp at hv'
      exact ⟨hi, hv'.symm⟩
    · rw [List.getElem?_eq_none (by simp; omega)] at hv'; simp at hv'
  refine ⟨l', VL.of _ _ (by simp [l', k1]) fun i v v' hv hv' => ?_, by simp [l'], ?_⟩
  · obtain ⟨hi, rfl⟩ := hl' i v' hv'
    obtain ⟨x, x', a1, a2, a3⟩ := hex i hi
    rw [hv] at a1; cases a1
    rw [a2]; exact a3
  · have := run_loadCells_list (P := P) w ⟨L.n, o + L.sh, none⟩ l' fun j v hv => by
      obtain ⟨hj, rfl⟩ := hl' j v hv
      obtain ⟨x, x', a1, a2, a3⟩ := hex j hj
      rw [addr_add, a2]
      refine cell_of h1 ?_
      rw [show o + L.sh + j = o + j + L.sh by omega, a2]; rfl
    rw [show l'.length = k by simp [l']] at this
    exact this

theorem kind_size {t : TypeId} {k : Nat} (h : kindP P t = some (some k)) : aggP P t = some true ∧ sizeP P t = some k := by
  unfold kindP at h
  split at h
  · split at h
    · cases h; exact ⟨by assumption, by assumption⟩
    · cases h
  · cases h
  · cases h

theorem kind_one {t : TypeId} (h : kindP P t = some none) : aggP P t = some false := by
  unfold kindP at h
  split at h
  · split at h <;> cases h
  · assumption
  · cases h

theorem R.loadVar {f : Ren} {h : Mem} {n : Nat} {w : World} (hr : R P f h n w) {t : TypeId} {a a' v : Value} (ha : VR f a a') (hl : loadA P h t a = some v) :
    ∃ v' b o, VR f v v' ∧ a' = .pointer (some ⟨b, o, none⟩) ∧ (loadVar t ⟨b, o, none⟩).run P w = .ok v' w := by
  unfold loadA at hl
  split at hl
  · rename_i b o
    cases ha with
    | @ptr _ _ L hb =>
    split at hl
    · rename_i c sz e hg
      split at hl
      · rename_i k hk
        unfold loadC at hl
        split at hl
        · rename_i m
          split at hl
          · rename_i l hl'
            cases hl
            obtain ⟨l', h1, h2, h3⟩ := hr.rd hb hg hl'
            obtain ⟨k1, k2⟩ := kind_size hk
            exact ⟨.agg ⟨l'⟩, _, _, .agg' h1, rfl, by simp [Go.loadVar, run_ag k1, run_sz k2, h3]⟩
          · cases hl
        · split at hl
          · rename_i hlt
            have hlt' : o < sz := Nat.le_of_ble_eq_true hlt
            obtain ⟨c', fr, h1, h2, h3, h4, h5, h6⟩ := hr.cells hb hg
            obtain ⟨v', a1, a2⟩ := h6 o v hlt' hl
            exact ⟨v', _, _, a2, rfl, by simp [Go.loadVar, run_ag (kind_one hk), cell_of h1 a1]⟩
          · cases hl
      · cases hl
    · cases hl
  · cases hl

theorem f_load {f : Ren} {h : Mem} {n : Nat} {w : World} (hr : R P f h n w) {t : TypeId} {a a' : Value} {fr : FR} (ha : VR f a a') (he : ansV (loadA P h t a) = some fr) :
    FOK P f w ((Instr.loadAt t a').run P w) fr := fok_ans he fun v hv => by
  obtain ⟨v', b, o, h1, h2, h3⟩ := hr.loadVar ha hv
  subst h2
  exact ⟨v', h1, by simp [Instr.loadAt, Instr.sureAddr, h3]⟩

/- small ones -/

theorem f_pick {f : Ren} {w : World} {c c' a a' b b' : Value} {fr : FR} (hc : VR f c c') (ha : VR f a a') (hb : VR f b b') (he : fPick c a b = some fr) :
    FOK P f w ((do pure (if ← asBool c' then a' else b') : Sem Value).run P w) fr := by
  unfold fPick at he
  split at he
  · cases he; cases hc; exact ⟨a', ha, by simp [asBool]⟩
  · cases he; cases hc; exact ⟨b', hb, by simp [asBool]⟩
  · cases he

theorem f_alloc {f : Ren} {w : World} {e : TypeId} {fr : FR} (he : fAlloc P e = some fr) : FOK P f w ((Instr.alloc e true (.tuple #[])).run P w) fr := by
  unfold fAlloc at he
  split at he
  · rename_i z hz
    split at he
    · rename_i hg
      cases he
      refine ⟨cellsA z, (vr_ground 3 z hg).cells, ?_⟩
      simp [Instr.alloc, run_zv hz, newVar, newRow, cellsA_eq]
    · cases he
  · cases he

theorem f_box {f : Ren} {w : World} {e : TypeId} {x x' : Value} (hx : VR f x x') : FOK P f w ((Instr.box e x').run P w) (.ptr (cellsA x) e) :=
  ⟨cellsA x', hx.cells, by simp [Instr.box, newVar, newRow, cellsA_eq]⟩

theorem fieldP_eq {s : TypeId} {k d m : Nat} {b : Bool} (h : fieldP P s k = some (d, m, b)) : ∃ fs x, P.underlying s = some (.struct fs) ∧ fs[k]? = some x ∧ x.offset = d ∧
    sizeP P x.type = some m ∧ aggP P x.type = some b := by
  unfold fieldP at h
  split at h
  · rename_i fs hu
    split at h
    · rename_i x hx
      split at h
      · rename_i m' b' h1 h2
        cases h
        exact ⟨fs, x, hu, hx, rfl, h1, h2⟩
      · cases h
    · cases h
  · cases h

theorem f_fieldAddr {f : Ren} {w : World} {s : TypeId} {x x' : Value} {k : Nat} {fr : FR} (hx : VR f x x') (he : fFieldAddr P s x k = some fr) :
    FOK P f w ((Instr.fieldAt s x' k).run P w) fr := by
  unfold fFieldAddr at he
  split at he
  · rename_i b o
    split at he
    · rename_i d m b' hf
      cases he
      cases hx with
      | @ptr _ _ L hb =>
      obtain ⟨fs, y, h1, h2, h3, h4, h5⟩ := fieldP_eq hf
      refine ⟨_, .ptr hb, ?_⟩
      simp only [Instr.fieldAt, Sem.run_bind, run_underlying h1, Result.andThen_ok, h2, Instr.sureAddr, Sem.run_pure, fieldPlace, run_sz h4, Nat.add_eq_zero_iff, Nat.one_ne_zero, and_false, if_false,
        Nat.succ_ne_zero, addr_add, h3]
      congr 4
      omega
    · cases he
  · cases he

theorem f_field {f : Ren} {w : World} {s : TypeId} {x x' : Value} {k : Nat} {fr : FR} (hx : VR f x x') (he : fField P s x k = some fr) :
    FOK P f w ((Instr.field s x' k).run P w) fr := by
  unfold fField at he
  split at he
  · rename_i l
    cases hx with
    | agg _ a' hl h1 =>
    have hv : VL f l a' := VL.of _ _ hl h1
    split at he
    · rename_i d m hf
      split at he
      · rename_i r hr
        cases he
        obtain ⟨fs, y, h1, h2, h3, h4, h5⟩ := fieldP_eq hf
        obtain ⟨rfl, hlen⟩ := listTake_eq _ _ _ hr
        refine ⟨.agg ⟨listDrop d a' |>.take m⟩, .agg' ((hv.drop d).take m), ?_⟩
        simp only [Instr.field, Sem.run_bind, run_underlying h1, Result.andThen_ok, h2, asAgg, Sem.run_pure, part, run_ag h5, if_true, run_sz h4, h3]
        congr 2
        simp [listDrop_eq, List.extract_eq_take_drop]
      · cases he
    · rename_i d m hf
      obtain ⟨fs, y, h1, h2, h3, h4, h5⟩ := fieldP_eq hf
      refine fok_ans he fun v hv' => ?_
      obtain ⟨v', k1, k2⟩ := hv.get hv'
      refine ⟨v', k2, ?_⟩
      rw [listGet_eq] at k1
      simp [Instr.field, run_underlying h1, h2, asAgg, part, run_ag h5, h3, k1]
    · cases he
  · cases he

theorem f_extract {f : Ren} {w : World} {x x' : Value} {k : Nat} {fr : FR} (hx : VR f x x') (he : fExtract x k = some fr) : FOK P f w ((Instr.extract x' k).run P w) fr := by
  unfold fExtract at he
  split at he
  · cases hx with
    | tuple _ a' hl h1 =>
    refine fok_ans he fun v hv' => ?_
    obtain ⟨v', k1, k2⟩ := (VL.of _ _ hl h1).get hv'
    rw [listGet_eq] at k1
    exact ⟨v', k2, by simp [Instr.extract, k1]⟩
  · cases he

theorem elemP_eq {t e : TypeId} {n : Nat} (h : elemP P t = some (e, n)) : P.underlying t = some (.slice e) ∧ sizeP P e = some (n + 1) := by
  unfold elemP at h
  split at h
  · rename_i hu
    split at h
    · rename_i hs; cases h; exact ⟨hu, hs⟩
    · cases h
  · cases h

theorem f_indexAddr {f : Ren} {w : World} {t : TypeId} {x x' i i' : Value} {fr : FR} (hx : VR f x x') (hi : VR f i i') (he : fIndexAddr P t x i = some fr) :
    FOK P f w ((Instr.indexAt t x' i').run P w) fr := by
  unfold fIndexAddr at he
  split at he
  · rename_i k hk
    obtain ⟨kd, rfl⟩ := hi.natV hk
    split at he
    · rename_i b o len cap
      split at he
      · rename_i hlt
        have hlt' : k < len := Nat.le_of_ble_eq_true hlt
        split at he
        · rename_i e m hel
          cases he
          obtain ⟨h1, h2⟩ := elemP_eq hel
          cases hx with
          | @slice _ _ _ _ cap' L hb hl hc h0 =>
          refine ⟨_, .ptr hb, ?_⟩
          have h3 : (0 : Int) ≤ (k : Int) ∧ (k : Int) < (len : Int) := ⟨by simp, by simpa using hlt'⟩
          simp [Instr.indexAt, asIntOf, run_underlying h1, h3, run_sz h2, addr_add, hlt']
          omega
        · cases he
      · cases he
    · cases he
  · cases he

theorem f_makeInterface {f : Ren} {w : World} {t : TypeId} {x x' : Value} {fr : FR} (hx : VR f x x') (he : fMakeInterface P t x = some fr) :
    FOK P f w ((Instr.makeInterface t x').run P w) fr := by
  unfold fMakeInterface at he
  split at he
  · cases he
  · rename_i d hn hu
    cases he
    refine ⟨_, .iface t hx, ?_⟩
    simp only [Instr.makeInterface, Sem.run_bind, run_underlying hu, Result.andThen_ok]
    cases d <;> first | rfl | exact (hn _ rfl).elim
  · cases he

theorem f_makeFunc {f : Ren} {w : World} {fn : Fn} {a a' b b' : List Value} (ha : VL f a a') (hb : VL f b b') : FOK P f w ((Instr.makeFunc fn ⟨a'⟩ ⟨b'⟩).run P w) (.val (.func fn ⟨a⟩ ⟨b⟩)) :=
  ⟨_, .func' fn ha hb, rfl⟩

theorem f_makeMap {f : Ren} {w : World} {t : TypeId} : FOK P f w ((Instr.makeMap t none).run P w) .newMap := by
  simp [FOK, Instr.makeMap]

end
end Go.Proofs.YtedbjceeakmjgaaGreatDoor.Ev
