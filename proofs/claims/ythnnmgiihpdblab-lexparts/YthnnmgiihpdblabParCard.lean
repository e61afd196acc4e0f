/- Proved: whatever the input, the law LexParts of callboxlaw03 (L3, the stage's theorem: tokens of any kinds, in any order, with any blanks and comments between, are taken apart into just these) returns true, and each argument reads behind the call as it read before. No condition. -/
import Derived.Test.YthnnmgiihpdblabFr
import Derived.Test.YthnnmgiihpdblabMa
namespace Go.Proofs.Ythnnmgiihpdblab
open Go.ChangeMaps Go.ChangeShapes Go.WideShapes Go.ChangeAt Go.RowKit

theorem wf_i64 {n : Int} (h : (Lit.int .i64 n).wf = true) : -9223372036854775808 ≤ n ∧ n ≤ 9223372036854775807 := by
  have hmin : IntKind.i64.min = -9223372036854775808 := rfl
  have hmax : IntKind.i64.max = 9223372036854775807 := rfl
  simp only [Lit.wf, Bool.and_eq_true, decide_eq_true_eq] at h
  omega
theorem max_int {n : Nat} (h : n ≤ maxLen) : (n : Int) ≤ 9223372036854775807 := by
  have : n ≤ 9223372036854775807 := Nat.le_trans h (by decide)
  omega

theorem add_none (b off : Nat) (i : Nat) : (⟨b, off, none⟩ : Addr).add i = ⟨b, off + i, none⟩ := Addr.add_lit _ _ _

/-- Numbers, opened. -/
theorem open_ints {H : Type} {enc : TypeId × Value → H} {w : World} {base : Nat} {sp : Nat → Bool} {held : Bool} {n : Nat} {cs : List Value} {x : DataW H × List MemPlace} (h : DataW.trod enc Try.prog w base sp held n 34 cs = some x) :
    ∃ (oa : Option Addr) (cap : Nat) (xs : List Int), cs = [.slice oa xs.length cap] ∧ IntAt w (.slice oa xs.length cap) xs ∧ xs.length ≤ maxLen := by
  have hc : Try.prog.cellsOf 3 = 1 := by kernel_rfl
  rcases Go.Deep.open_slice1 Try.underlying34 hc h with ⟨h0, _⟩ | ⟨a, len, cap, m, f, V, D, Pl, h0, _, hl, hm, hmm, _, hx⟩
  · exact ⟨none, 0, [], h0, ⟨none, 0, 0, 0, rfl, fun h => by simp at h, fun i x h => by simp at h, fun x h => by simp at h⟩, Nat.zero_le _⟩
  · have hlm : len ≤ m := by rw [hmm]; split <;> omega
    have key : ∀ i, i < len → ∃ z : Int, w.cell? (a.add i) = some (.int .i64 z) ∧ -9223372036854775808 ≤ z ∧ z ≤ 9223372036854775807 := fun i hi => by
      obtain ⟨h1, h2⟩ := hx i (by omega)
      obtain ⟨z, hz, _, hwf⟩ := DataW.trod_int Try.underlying3 h2
      simp only [List.cons.injEq, and_true] at hz
      rw [hz] at h1
      exact ⟨z, h1, wf_i64 hwf⟩
    obtain ⟨F, hF⟩ := Go.Deep.choose_lt (α := Int) (p := fun i z => w.cell? (a.add i) = some (.int .i64 z) ∧ -9223372036854775808 ≤ z ∧ z ≤ 9223372036854775807) (n := len) key
    have hlen : ((List.range len).map F).length = len := by simp
    refine ⟨some a, cap, (List.range len).map F, by rw [hlen]; exact h0, ?_, by rw [hlen]; omega⟩
    obtain ⟨b, off, spot⟩ := a
    by_cases hp : 0 < len
    · have hs : spot = none := by simpa [Addr.add] using World.cell?_spot (hF 0 hp).1
      subst hs
      refine ⟨some ⟨b, off, none⟩, cap, b, off, rfl, fun _ => rfl, fun i x hx => ?_, fun x hx => ?_⟩
      · have hi : i < len := by have := (List.getElem?_eq_some_iff.1 hx).1; simpa using this
        have : x = F i := by simpa [hi] using hx.symm
        rw [this, ← add_none]; exact (hF i hi).1
      · obtain ⟨i, hi, rfl⟩ := List.mem_map.1 hx
        exact (hF i (List.mem_range.1 hi)).2
    · obtain rfl : len = 0 := by omega
      exact ⟨_, cap, 0, 0, rfl, fun h => by simp at h, fun i x h => by simp at h, fun x h => by simp at h⟩

theorem list4 {α : Type} (l : List α) (h : l.length = 4) : ∃ a b c d, l = [a, b, c, d] := by
  match l, h with
  | [a, b, c, d], _ => exact ⟨a, b, c, d, rfl⟩

def PcAt (w : World) (a : Addr) (i : Nat) (y : Pc × (Option Addr × Nat)) : Prop :=
  w.cell? (a.add (i * 4)) = some (.int .i64 y.1.what) ∧ w.cell? (a.add (i * 4 + 1)) = some (.int .i64 y.1.n) ∧ w.cell? (a.add (i * 4 + 2)) = some (S y.1.s) ∧
    w.cell? (a.add (i * 4 + 3)) = some (.slice y.2.1 y.1.gap.length y.2.2) ∧ IntAt w (.slice y.2.1 y.1.gap.length y.2.2) y.1.gap ∧ (-9223372036854775808 ≤ y.1.n ∧ y.1.n ≤ 9223372036854775807) ∧ (y.1.s.length : Int) ≤ 9223372036854775807 ∧ (y.1.gap.length : Int) ≤ 9223372036854775807

/-- One piece, opened. -/
theorem piece_at {H : Type} {enc : TypeId × Value → H} {w : World} {base : Nat} {sp : Nat → Bool} {held : Bool} {n : Nat} {a : Addr} {i : Nat} {cs : List Value} {x : DataW H × List MemPlace}
    (h1 : w.cells? base (a.add (i * 4)) 4 = some cs) (h2 : DataW.trod enc Try.prog w base sp held n 41 cs = some x) : ∃ y, PcAt w a i y := by
  obtain ⟨_, hlen, hcell⟩ := World.cells?_some h1
  obtain ⟨xs, k, _, _, _, hxl, hf⟩ := DataW.trod_struct Try.underlying41 h2
  obtain ⟨y0, y1, y2, y3, rfl⟩ := list4 xs hxl
  obtain ⟨v0, v1, v2, v3, rfl⟩ := list4 cs hlen
  have k3 : Try.prog.cellsOf 3 = 1 := by kernel_rfl
  have k9 : Try.prog.cellsOf 9 = 1 := by kernel_rfl
  have k34 : Try.prog.cellsOf 34 = 1 := by kernel_rfl
  have g0 : DataW.trod enc Try.prog w base sp held k 3 (([v0, v1, v2, v3].drop 0).take (Try.prog.cellsOf 3)) = some y0 := hf 0 _ rfl
  rw [k3] at g0
  have g1 : DataW.trod enc Try.prog w base sp held k 3 (([v0, v1, v2, v3].drop 1).take (Try.prog.cellsOf 3)) = some y1 := hf 1 _ rfl
  rw [k3] at g1
  have g2 : DataW.trod enc Try.prog w base sp held k 9 (([v0, v1, v2, v3].drop 2).take (Try.prog.cellsOf 9)) = some y2 := hf 2 _ rfl
  rw [k9] at g2
  have g3 : DataW.trod enc Try.prog w base sp held k 34 (([v0, v1, v2, v3].drop 3).take (Try.prog.cellsOf 34)) = some y3 := hf 3 _ rfl
  rw [k34] at g3
  have e0 := hcell 0 (by omega)
  have e1 := hcell 1 (by omega)
  have e2 := hcell 2 (by omega)
  have e3 := hcell 3 (by omega)
  rw [Go.Deep.add_add] at e0 e1 e2 e3
  obtain ⟨z0, q0, _, w0⟩ := DataW.trod_int Try.underlying3 (x := y0) g0
  obtain ⟨z1, q1, _, w1⟩ := DataW.trod_int Try.underlying3 (x := y1) g1
  obtain ⟨z2, q2, _, w2⟩ := DataW.trod_string Try.underlying9 (x := y2) g2
  obtain ⟨oa, cap, gap, q3, hia, hgl⟩ := open_ints g3
  simp at q0 q1 q2 q3
  subst q0 q1 q2 q3
  refine ⟨(⟨z0, z1, z2.data.toList, gap⟩, (oa, cap)), by simpa using e0, by simpa using e1, ?_, by simpa using e3, hia, wf_i64 w1, ?_, max_int hgl⟩
  · show w.cell? _ = some (.string ⟨z2.data.toList.toArray⟩)
    rw [list_bytes]; simpa using e2
  · exact max_int (by simpa using w2)

set_option maxRecDepth 100000 in
/-- Pieces, opened. -/
theorem open_pieces {H : Type} {enc : TypeId × Value → H} {W : World} {base : Nat} {v : Value} {d : DataW H} {ps : List MemPlace} (h : DataW.Trod enc Try.prog W 0 (fun _ => true) true 33 v d ps) (hv : Value.okWide Try.prog W .any base 33 v) :
    ∃ (l : List Pc) (gv : Nat → Option Addr × Nat), PcsAt W v l gv ∧ l.length ≤ maxLen := by
  obtain ⟨fuel, hf⟩ := h
  have hc : Try.prog.cellsOf 41 = 4 := by kernel_rfl
  obtain ⟨a', l', c', rfl⟩ := okWide_slice Try.underlying33 hv
  rcases Go.Deep.open_slice Try.underlying33 hf with ⟨h0, _⟩ | ⟨a, len, cap, m, n, D, Pl, h0, _, hl, hm, hmm, _, hx⟩
  · have hv0 : (.slice a' l' c' : Value) = .slice none 0 0 := by simpa [Value.cells] using h0
    exact ⟨[], fun _ => (none, 0), ⟨none, 0, 0, 0, hv0, fun h => by simp at h, fun i p h => by simp at h⟩, Nat.zero_le _⟩
  · have hv0 : (.slice a' l' c' : Value) = .slice (some a) len cap := by simpa [Value.cells] using h0
    have hlm : len ≤ m := by rw [hmm]; simp; exact hl
    rw [hc] at hx
    have inst : Inhabited (Pc × (Option Addr × Nat)) := ⟨(⟨0, 0, [], []⟩, (none, 0))⟩
    obtain ⟨F, hF⟩ := Go.Deep.choose_lt (α := Pc × (Option Addr × Nat)) (p := fun i y => PcAt W a i y) (n := len) (fun i hi => by
      obtain ⟨cs', h1, h2⟩ := hx i (by omega)
      exact piece_at h1 h2)
    have hlen : ((List.range len).map fun i => (F i).1).length = len := by simp
    refine ⟨(List.range len).map fun i => (F i).1, fun i => (F i).2, ?_, by rw [hlen]; omega⟩
    obtain ⟨b, off, spot⟩ := a
    by_cases hp : 0 < len
    · have hs : spot = none := by simpa [Addr.add] using World.cell?_spot (hF 0 hp).1
      subst hs
      refine ⟨some ⟨b, off, none⟩, cap, b, off, by rw [hlen]; exact hv0, fun _ => rfl, fun i p hpp => ?_⟩
      have hi : i < len := by have := (List.getElem?_eq_some_iff.1 hpp).1; simpa using this
      have e : p = (F i).1 := by simpa [hi] using hpp.symm
      subst e
      obtain ⟨f0, f1, f2, f3, f4⟩ := hF i hi
      rw [add_none] at f0 f1 f2 f3
      refine ⟨f0, ?_, ?_, ?_, f4⟩
      · rw [Nat.add_assoc]; exact f1
      · rw [Nat.add_assoc]; exact f2
      · rw [Nat.add_assoc]; exact f3
    · obtain rfl : len = 0 := by omega
      exact ⟨_, cap, 0, 0, by simpa using hv0, fun h => by simp at h, fun i p h => by simp at h⟩

set_option maxRecDepth 100000 in
theorem lexParts_lifted (os : Os) (started : os.Started) (H : Type) (enc : TypeId × Value → H) :
    ReturnsInHanded {} Try.checked os 5 .any (fun w args => Rows.lexPartsSpec.pre enc Try.prog Try.f5 [] false w args ∧ sizedMet enc Try.prog Try.f5 (OpenSpec.ofChange Rows.lexPartsSpec) false w args)
      (Rows.lexPartsSpec.post enc Try.prog Try.f5 false true false false) := by
  refine lift_law started (by kernel_rfl) Try.func5
    (ChangeSpec.witness_shaped (enc := enc) (C := Try.checked) (os := os) (X := fun _ _ => True) false
      (World.holding Try.prog os ⟨#[], #[], []⟩) #[.slice none 0 0, .slice none 0 0] 8 rfl
      (World.shaped_of_ZipB (by kernel_rfl) (by kernel_rfl)) (by kernel_rfl) (by kernel_rfl) (by kernel_rfl)
      trivial) ?_
  intro W base args ds gs before hval0 hW _ _
  have hval : ∀ (j : Nat) t v, Try.f5.params[j]? = some t → args[j]? = some v → Value.okWide Try.prog W .any base t v := hval0
  have hW' := hW
  obtain ⟨p, q, hA0, hV, rfl, _, _⟩ := hW
  have hA : DataW.TrodAll enc Try.prog W 0 (fun _ => true) true Try.f5.params.toList args.toList ds p := hA0
  have hlt := hA.lt
  rw [Try.params5] at hA hval
  obtain ⟨v0, v1, d0, d1, p0, p1, rfl, rfl, rfl, h0, h1⟩ := trodAll_two hA
  obtain ⟨rfl, rfl⟩ := trodVars_none hV
  obtain ⟨ps, gv, hps, hpl⟩ := open_pieces h0 (hval 0 33 v0 rfl rfl)
  obtain ⟨bs, hbs, hbl⟩ : ∃ bs, IntAt W v1 bs ∧ bs.length ≤ maxLen := by
    obtain ⟨fuel, hf⟩ := h1
    obtain ⟨a', l', c', rfl⟩ := okWide_slice Try.underlying34 (hval 1 34 v1 rfl rfl)
    obtain ⟨oa, cap, xs, e, hi, hl⟩ := open_ints hf
    have e2 : (.slice a' l' c' : Value) = .slice oa xs.length cap := by simpa [Value.cells] using e
    exact ⟨xs, by rw [e2]; exact hi, hl⟩
  clear hA0 hval0
  refine (lexParts_any ps bs v0 v1 gv W hps hbs (max_int hpl) (max_int hbl)).mono fun e W' ⟨he, hg⟩ => ?_
  subst he
  have hs0 := Below.trod (by kernel_rfl) (by kernel_rfl) (of_decide_eq_true (by kernel_rfl)) h0 hg (fun x hx => hlt x (by simp [hx]))
  have hs1 := Below.trod (by kernel_rfl) (by kernel_rfl) (of_decide_eq_true (by kernel_rfl)) h1 hg (fun x hx => hlt x (by simp [hx]))
  exact ⟨_, rfl, _, _, _, [], _, [], hW', trodAll_mk1 (shut_bool Try.underlying4 _), trodAll_mk2 hs0 hs1, rfl, hg.frame _, fun h => by cases h⟩

theorem lexParts_holds : Rows.LexPartsSaid :=
  OpenClaim.holds_of_wide 5 Try.f5 rfl rfl rfl rfl rfl rfl rfl ⟨rfl, rfl, rfl, rfl, rfl⟩ rfl rfl rfl rfl rfl (by kernel_rfl) Try.func5 (by kernel_rfl)
    (of_decide_eq_true (by kernel_rfl)) (by unfold Func.isWrapper; first | (rw [if_pos (by decide +kernel)]; kernel_rfl) | (rw [if_neg (by decide +kernel)]; exact ⟨rfl, rfl⟩))
    (fun os started H enc _ => lexParts_lifted os started H enc)
#print axioms lexParts_holds
end Go.Proofs.Ythnnmgiihpdblab
