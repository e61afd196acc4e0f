/- The evaluator of closed runs: EvF7 -/
import Derived.Test.YtedbjceeakmjgaaGreatDoorEvF6
import Derived.Laws.BytesString
namespace Go.Proofs.YtedbjceeakmjgaaGreatDoor.Ev
set_option linter.unusedSimpArgs false

section
variable {P : Program}

theorem bytesV_eq : ∀ {l : List Value} {r : List UInt8}, bytesV l = some r → ∃ ns : List Int, l = ns.map (Value.int .u8) ∧ r = ns.map fun n => UInt8.ofNat n.toNat
  | [], r, h => by simp [bytesV] at h; exact ⟨[], rfl, by simp [h]⟩
  | v :: l, r, h => by
    unfold bytesV at h
    split at h
    · rename_i b hb
      split at h
      · rename_i r' hr
        cases h
        obtain ⟨ns, h1, h2⟩ := bytesV_eq hr
        unfold byteV at hb
        split at hb
        · rename_i n
          cases hb
          exact ⟨n :: ns, by simp [h1], by simp [h2]⟩
        · cases hb
      · cases h
    · cases h

theorem VL.ints {f : Ren} {k : IntKind} : ∀ {ns : List Int} {l' : List Value}, VL f (ns.map (Value.int k)) l' → l' = ns.map (Value.int k)
  | [], l', h => by cases h; rfl
  | n :: ns, l', h => by
    cases h with
    | cons a b => cases a; rw [VL.ints b]; rfl

theorem foldl_push : ∀ (ns : List Int) (s : ByteArray), ns.foldl (fun r n => r.push (UInt8.ofNat n.toNat)) s = ⟨s.data ++ (ns.map fun n => UInt8.ofNat n.toNat).toArray⟩
  | [], s => by simp
  | n :: ns, s => by
    rw [List.foldl_cons, foldl_push ns]
    congr 1
    simp [ByteArray.push]

theorem bytesP_eq {t e : TypeId} (h : bytesP P t = some e) : P.underlying t = some (.slice e) ∧ P.underlying e = some (.int .u8) ∧ sizeP P e = some 1 := by
  unfold bytesP at h
  split at h
  · rename_i hu
    split at h
    · rename_i hu2
      split at h
      · rename_i hs; cases h; exact ⟨hu, hu2, hs⟩
      · cases h
    · cases h
  · cases h

theorem f_convert {f : Ren} {h : Mem} {n : Nat} {w : World} (hr : R P f h n w) {s d : TypeId} {x x' : Value} {fr : FR} (hx : VR f x x') (he : fConvert P h s d x = some fr) :
    FOK P f w ((convert s d x').run P w) fr := by
  unfold fConvert at he
  split at he
  · -- the text of a row of bytes
    rename_i b o len cap
    unfold fConvBytes at he
    split at he
    · rename_i e hs hd
      obtain ⟨h1, h2, h3⟩ := bytesP_eq hs
      split at he
      · rename_i c sz e' hg
        split at he
        · rename_i l hl
          split at he
          · rename_i r hr'
            cases he
            cases hx with
            | @slice _ _ _ _ cap' L hb hl' hc h0 =>
            obtain ⟨l', a1, a2, a3⟩ := hr.rd hb hg hl
            obtain ⟨ns, rfl, rfl⟩ := bytesV_eq hr'
            have := a1.ints
            subst this
            refine ⟨_, .string _, ?_⟩
            rw [run_convert_bytes_string w s d e _ len cap' h1 h2 hd, run_bytesToString w _ len cap' ns (by simpa using a3), foldl_push]
            simp
          · cases he
        · cases he
      · cases he
    · cases he
  · rename_i l
    cases hx
    split at he
    · rename_i e hd
      obtain ⟨h1, h2, h3⟩ := bytesP_eq hd
      split at he
      · rename_i hs
        cases he
        have hsz : (ByteArray.mk ⟨l⟩).size = l.length := by simp [ByteArray.size]
        let C := l.length + w.tape w.drawn (.appendCap l.length 0 e) % (2 ^ 63 - l.length)
        let cs : List Value := l.map (fun b => Value.int .u8 b.toNat) ++ List.replicate (C - l.length) (.int .u8 0)
        have hC : l.length ≤ C := Nat.le_add_right _ _
        have hcl : cs.length = C := by simp [cs]; omega
        have hrun : (convert s d (.string ⟨⟨l⟩⟩)).run P w = .ok (.slice (some ⟨w.heap.size, 0, none⟩) l.length C)
            { w with heap := w.heap.push (.cells ⟨cs⟩ e (C, C + 1)), drawn := w.drawn + 1 } := by
          have hcs : (Array.map (fun b : UInt8 => Value.int .u8 b.toNat) ⟨l⟩ ++ Array.replicate (C - l.length) (Value.int .u8 0)) = ⟨cs⟩ := by
            apply Array.ext'; simp [cs]
          simp only [convert, Sem.run_bind, run_underlying hs, run_underlying h1, run_underlying h2, Result.andThen_ok, Conv.stringToBytes, hsz, run_choose, Question.forced, Question.cut]
          simp only [Bool.false_eq_true, if_false, Result.andThen_ok, newRow, Sem.run_bind, run_newObj, Sem.run_pure, markStringish, run_shape]
          have hC' : l.length + w.tape w.drawn (.appendCap l.length 0 e) % (2 ^ 63 - l.length) = C := rfl
          rw [hC', hcs]
          have hsh : World.shape? { w with heap := w.heap.push (.cells ⟨cs⟩ e (0, 0)), drawn := w.drawn + 1 } w.heap.size = some (e, C) := by
            simp [World.shape?, hcl]
          simp only [hsh, run_freeze, Result.andThen_ok, World.freeze]
          congr 1
          simp only [Nat.one_ne_zero, if_false]
          congr 1
          apply Array.ext_getElem?
          intro i
          rw [Array.getElem?_modify]
          by_cases hi : w.heap.size = i
          · subst hi; simp
          · simp [hi, Array.getElem?_push]
            split <;> simp_all
        refine ⟨cs, C, _, (C, C + 1), hrun, rfl, ⟨rfl, rfl, rfl⟩, ⟨1, h3, hC, fun h => absurd rfl h, fun _ => by omega⟩, fun j hj => by omega, by simp [cs], fun i v hv => ?_⟩
        refine ⟨v, ?_, ?_⟩
        · have hi := (List.getElem?_eq_some_iff.1 hv).1
          simp only [cs]
          rw [List.getElem?_append_left (by simpa using hi)]
          exact hv
        · have := List.mem_of_getElem? hv
          simp only [List.mem_map] at this
          obtain ⟨b, _, rfl⟩ := this
          exact .int _ _
      · cases he
    · exact f_ansG he
  · split at he
    · rename_i hg; rw [hx.ground 2 hg]; exact f_ansG he
    · cases he

theorem ML.find {f : Ren} {n : Nat} {key v : Value} {m : Nat} : ∀ {es : List (Value × Value × Nat)} {es' : List MapEntry}, ML f es es' → es.find? (fun e => Nat.beq e.2.2 n) = some (key, v, m) →
    ∃ v', es'.find? (fun e => e.born == n) = some ⟨key, v', m⟩ ∧ VR f v v'
  | [], es', hm, h => by simp at h
  | (k, u, i) :: es, [], hm, h => by simp [ML] at hm
  | (k, u, i) :: es, e' :: es', hm, h => by
    obtain ⟨v', h1, h2⟩ := hm.2 0 k u i rfl
    simp at h1
    subst h1
    by_cases hi : i = n
    · subst hi
      simp at h
      obtain ⟨rfl, rfl, rfl⟩ := h
      exact ⟨v', by simp, h2⟩
    · have hb : Nat.beq i n = false := by
        cases hb : Nat.beq i n
        · rfl
        · exact absurd (Nat.eq_of_beq_eq_true hb) hi
      simp only [List.find?_cons, hb] at h
      have hb' : (i == n) = false := by simpa using hi
      simp only [List.find?_cons, hb']
      exact ML.find hm.tail h

theorem f_entry {f : Ren} {h : Mem} {n : Nat} {w : World} (hr : R P f h n w) {x x' : Value} {fr : FR} (hx : VR f x x') (he : fEntry h x = some fr) :
    FOK P f w ((Instr.entry x').run P w) fr := by
  unfold fEntry at he
  split at he
  · rename_i r
    split at he
    · rename_i m since seen stepped hg
      split at he
      · rename_i es clock k hgm hlast
        split at he
        · rename_i key v k' hc hf
          split at he
          case h_2 => cases he
          rename_i hgr
          cases he
          cases hx with
          | @ptr _ _ L hb =>
          have hL := hr.obj r L _ hb hg
          obtain ⟨hsh, Lm, hm, ho⟩ := hL
          obtain ⟨es', h1, h2⟩ := hr.mapAt hm hgm
          have hcs : clock = stepped := Nat.eq_of_beq_eq_true hc
          subst hcs
          obtain ⟨v', h3, h4⟩ := h2.find hf
          refine ⟨_, .tuple' (.cons (?_ : VR f key key) (.single h4)), ?_⟩
          · exact vr_ground 4 key hgr
          · have hback : (⟨seen⟩ : Array Nat).back? = some k := by rw [← Array.getLast?_toList]; exact hlast
            rw [hsh]
            simp [Instr.entry, Go.getObj, Sem.run, ho, hback, h1, h3]
        · cases he
      · cases he
    · cases he
  · cases he

end
end Go.Proofs.YtedbjceeakmjgaaGreatDoor.Ev
