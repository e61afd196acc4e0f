/- The evaluator of closed runs: EvS3 -/
import Derived.Test.YtedbjceeakmjgaaGreatDoorEvS2
namespace Go.Proofs.YtedbjceeakmjgaaGreatDoor.Ev
set_option linter.unusedSimpArgs false

section
variable {P : Program}

theorem sized_info {e : TypeId} {n : Nat} (h : sizeP P e = some n) : ∃ i, P.info? e = some i ∧ i.size = n := by
  unfold sizeP at h
  split at h
  · rename_i i hi; cases h; exact ⟨i, hi, rfl⟩
  · cases h

/-- the elements of a slice or a text that are appended, or copied. -/
theorem R.first {f : Ren} {h : Mem} {n : Nat} {w : World} (hr : R P f h n w) {size m : Nat} {x x' : Value} {l : List Value} (hx : VR f x x') (hm : lenA x = some m)
    (he : firstA h size x = some l) : ∃ l', VL f l l' ∧ (Builtin.firstCells size m x').run P w = .ok ⟨l'⟩ w ∧ Builtin.lenOf x' = pure m := by
  unfold firstA at he
  split at he
  · rename_i a c
    cases he
    cases hx
    unfold lenA at hm
    cases hm
    exact ⟨[], .nil, by simp [Builtin.firstCells], rfl⟩
  · cases he
    cases hx
    unfold lenA at hm
    cases hm
    exact ⟨[], .nil, by simp [Builtin.firstCells, loadCells, loadCellsFrom], rfl⟩
  · split at he
    · rename_i c sz e hg
      cases hx with
      | @slice _ _ _ _ cap' L hb hl h1 h0 =>
      unfold lenA at hm
      cases hm
      obtain ⟨l', a1, a2, a3⟩ := hr.rd hb hg he
      exact ⟨l', a1, by simp [Builtin.firstCells, a3], rfl⟩
    · cases he
  · rename_i l
    cases he
    cases hx
    unfold lenA at hm
    cases hm
    have hsz : (ByteArray.mk ⟨l⟩).size = l.length := by simp [ByteArray.size]
    have hx : (ByteArray.mk ⟨l⟩).extract 0 l.length = ⟨⟨l⟩⟩ := by
      apply ByteArray.ext
      simp [ByteArray.data_extract, List.extract_eq_take_drop]
    refine ⟨l.map fun b => .int .u8 (.ofNat b.toNat), vl_ground 1 _ (by intro v hv; simp only [List.mem_map] at hv; obtain ⟨b, _, rfl⟩ := hv; rfl), ?_, by simp [Builtin.lenOf, hsz]⟩
    simp [Builtin.firstCells, hx]
  · cases he

theorem append_room {w w' : World} {t tx ty e : TypeId} {size m sLen sCap : Nat} {d : TypeDesc} {base : Option Addr} {x : Value} {news : List Value} (hu : P.underlying t = some (.slice e))
    (hs : sizeP P e = some size) (hx : P.underlying tx = some d) (hd : ∀ k, d ≠ .int k) (hlen : Builtin.lenOf x = pure m) (hroom : sLen + m ≤ sCap)
    (hf : (Builtin.firstCells size m x).run P w = .ok ⟨news⟩ w) (hst : ∀ a, base = some a → (storeCells (a.add (sLen * size)) news).run P w = .ok () w') (hno : base = none → w' = w) :
    (Builtin.append_ #[t, tx] ty #[.slice base sLen sCap, x]).run P w = .ok (.slice base (sLen + m) sCap) w' := by
  have hd' : (d matches .int _) = false := by cases d <;> first | rfl | exact absurd rfl (hd _)
  cases base with
  | none =>
    rw [hno rfl]
    simp [Builtin.append_, run_underlying hu, run_underlying hx, run_sz hs, hd', hlen, hroom, hf]
  | some a =>
    simp [Builtin.append_, run_underlying hu, run_underlying hx, run_sz hs, hd', hlen, hroom, hf, hst a rfl]

theorem append_grow {w : World} {t tx ty e : TypeId} {size m sLen sCap : Nat} {d : TypeDesc} {base : Option Addr} {x z : Value} {i : TypeInfo} {olds news : List Value} (hu : P.underlying t = some (.slice e))
    (hi : P.info? e = some i) (hsz : i.size = size) (hz : i.zero = some z) (hx : P.underlying tx = some d) (hd : ∀ k, d ≠ .int k) (hlen : Builtin.lenOf x = pure m) (hroom : sCap < sLen + m)
    (hf : (Builtin.firstCells size m x).run P w.drew = .ok ⟨news⟩ w.drew) (hfo : (Builtin.firstCells size sLen (.slice base sLen sCap)).run P w.drew = .ok ⟨olds⟩ w.drew)
    (hsmall : sLen + m ≤ 1048576) (hb : i.bytes ≤ 65536) (_hb0 : i.bytes ≠ 0 ∨ sLen + m ≤ 1048576) :
    (Builtin.append_ #[t, tx] ty #[.slice base sLen sCap, x]).run P w =
      .ok (.slice (some ⟨w.heap.size, 0, none⟩) (sLen + m) (grownCap w (sLen + m) sCap e))
        { w.drew with heap := w.heap.push (.cells ((⟨olds⟩ : Array Value) ++ ⟨news⟩ ++ Builtin.zeroCells z.cells (grownCap w (sLen + m) sCap e - (sLen + m))) e) } := by
  have hd' : (d matches .int _) = false := by cases d <;> first | rfl | exact absurd rfl (hd _)
  have hn : ¬ (sLen + m ≤ sCap) := by omega
  have h63 : ¬ (((sLen + m : Nat) : Int) > IntKind.i64.max) := by
    have : IntKind.i64.max = 9223372036854775807 := by decide
    rw [this]; omega
  have h48 : ¬ (Builtin.nextslicecap (sLen + m) sCap * i.bytes > 2 ^ 48) := by
    have h1 : (sLen + m) * i.bytes ≤ 1048576 * 65536 := Nat.mul_le_mul hsmall hb
    have := growslice_fits (need := sLen + m) (old := sCap) (bytes := i.bytes) (by omega) (by omega)
    omega
  have hq : (Question.appendCap (sLen + m) sCap e).forced = false := rfl
  have hs : sizeP P e = some size := by unfold sizeP; rw [hi]; simp [hsz]
  have hzv : zeroP P e = some z := by unfold zeroP; rw [hi]; exact hz
  have h63' : ¬ (9223372036854775807 < ((sLen : Int) + (m : Int))) := by omega
  have h48' : ¬ (281474976710656 < Builtin.nextslicecap (sLen + m) sCap * i.bytes) := by omega
  simp [Builtin.append_, run_underlying hu, run_underlying hx, run_sz hs, run_typeInfo w hi, run_zv hzv, hd', hlen, hn, h63', h48', hq, hf, hfo, newRow, grownCap]
  rw [run_typeInfo w.drew hi]
  simp only [Result.andThen_ok, hfo, hf]
  have harr : ∀ Z : Array Value, (⟨olds⟩ : Array Value) ++ ((⟨news⟩ : Array Value) ++ Z) = (olds ++ news).toArray ++ Z := fun Z => by
    apply Array.ext'; simp
  rw [harr]
  rfl

theorem grown_le (w : World) (need old : Nat) (e : TypeId) : need ≤ grownCap w need old e := by
  unfold grownCap Question.cut
  exact Nat.le_add_right _ _

theorem appOk_eq {xt e : TypeId} {n : Nat} (h : appOk P xt e n = true) : (∃ d, P.underlying xt = some d ∧ ∀ k, d ≠ .int k) ∧
    ∃ i z, P.info? e = some i ∧ i.bytes ≤ 65536 ∧ i.zero = some z ∧ (cellsA z).length = n + 1 := by
  unfold appOk at h
  simp only [Bool.and_eq_true] at h
  obtain ⟨h1, h2⟩ := h
  constructor
  · split at h1
    · rename_i e' hu; exact ⟨_, hu, by simp⟩
    · rename_i hu; exact ⟨_, hu, by simp⟩
    · cases h1
  · split at h2
    · rename_i i hi
      simp only [Bool.and_eq_true] at h2
      obtain ⟨h3, h4⟩ := h2
      split at h4
      · rename_i z hz
        exact ⟨i, z, hi, Nat.le_of_ble_eq_true h3, hz, Nat.eq_of_beq_eq_true h4⟩
      · cases h4
    · cases h2

/-- the state behind an append. -/
def AppOK (P : Program) (f : Ren) (h : Mem) (n : Nat) (w : World) (ats : Array TypeId) (args : Array Value) (v : Value) (h' : Mem) (n' : Nat) : Prop :=
  ∃ g v' w', (∀ ty, (Builtin.append_ ats ty args).run P w = .ok v' w') ∧ VR g v v' ∧ Step P f h n w g h' n' w'

/-- a row laid down anew by an append: the old one stays, or is given up. -/
theorem grow_step {f : Ren} {h : Mem} {n : Nat} {w : World} (hr : R P f h n w) {e : TypeId} {k : Nat} (hs : sizeP P e = some (k + 1)) {z : Value} (hz : (cellsA z).length = k + 1) {olds news : List Value} {l : List Value}
    (hl : VL f l (olds ++ news)) {need cap' : Nat} (hlen : (olds ++ news).length = need * (k + 1)) (hneed : need ≤ cap') {c : T Value} (hc : ∀ i, c.get i = l[i]?) :
    ∃ L : Loc, VR (f.put n L) (.slice (some ⟨n, 0, none⟩) need 0) (.slice (some ⟨w.heap.size, 0, none⟩) need cap') ∧
      Step P f h n w (f.put n L) (h.set n (.cells c l.length e)) (n + 1)
        { w.drew with heap := w.heap.push (.cells ((⟨olds⟩ : Array Value) ++ ⟨news⟩ ++ Builtin.zeroCells z.cells (cap' - need)) e) } := by
  have harr : (⟨olds⟩ : Array Value) ++ ⟨news⟩ ++ Builtin.zeroCells z.cells (cap' - need) = ⟨(olds ++ news) ++ (Builtin.zeroCells z.cells (cap' - need)).toList⟩ := by
    apply Array.ext'; simp
  have hzl : (Builtin.zeroCells z.cells (cap' - need)).toList.length = (cap' - need) * (k + 1) := by
    simp [Builtin.zeroCells, cellsA_eq, hz]
  have hll : ((olds ++ news) ++ (Builtin.zeroCells z.cells (cap' - need)).toList).length = cap' * (k + 1) := by
    rw [List.length_append, hlen, hzl, ← Nat.add_mul]
    congr 1; omega
  have hfn : f n = none := hr.fresh n (Nat.le_refl _)
  refine ⟨⟨w.heap.size, cap' * (k + 1), k + 1, 0⟩, ?_, ?_⟩
  · have := VR.slice (f := f.put n ⟨w.heap.size, cap' * (k + 1), k + 1, 0⟩) (b := n) (o := 0) (len := need) (cap := 0) (cap' := cap') (L := ⟨w.heap.size, cap' * (k + 1), k + 1, 0⟩)
      (by simp [Ren.put]) hneed (fun h => absurd rfl h) (fun _ => by simp)
    simpa using this
  · have := hr.pushCells (w' := { w.drew with heap := w.heap.push (.cells ((⟨olds⟩ : Array Value) ++ ⟨news⟩ ++ Builtin.zeroCells z.cells (cap' - need)) e) })
      (l := l) (l' := (olds ++ news) ++ (Builtin.zeroCells z.cells (cap' - need)).toList) (e := e) (fr := (0, 0)) (c := c) (z := k + 1) hc (by rw [harr]) ⟨rfl, rfl, rfl⟩
      (fun y hy => by rw [hs] at hy; cases hy; rfl) (fun j _ h => by simp at h) (by rw [hl.len]; simp) (fun i v hv => by
        obtain ⟨v', a1, a2⟩ := hl.ex hv
        have hi := (List.getElem?_eq_some_iff.1 a1).1
        exact ⟨v', by rw [List.getElem?_append_left hi]; exact a1, a2⟩)
    rw [hll] at this
    exact this

end
end Go.Proofs.YtedbjceeakmjgaaGreatDoor.Ev
