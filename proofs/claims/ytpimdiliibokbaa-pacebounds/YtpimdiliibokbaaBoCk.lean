/- What is handed in, opened: a pace, numbers, ticks. -/
import Derived.Test.YtpimdiliibokbaaBoFr
import Derived.Test.YtpimdiliibokbaaBoWe
import Derived.SizedLaws
namespace Go.Proofs.Ytpimdiliibokbaa
open Go.ChangeMaps Go.ChangeShapes Go.WideShapes Go.ChangeAt Go.RowKit
theorem wf_i64 {n : Int} (h : (Lit.int .i64 n).wf = true) : -9223372036854775808 ≤ n ∧ n ≤ 9223372036854775807 := by
  have hmin : IntKind.i64.min = -9223372036854775808 := rfl
  have hmax : IntKind.i64.max = 9223372036854775807 := rfl
  simp only [Lit.wf, Bool.and_eq_true, decide_eq_true_eq] at h
  omega
theorem list1 {α : Type} (l : List α) (h : l.length = 1) : ∃ a, l = [a] := by
  match l, h with
  | [a], _ => exact ⟨a, rfl⟩
theorem list2 {α : Type} (l : List α) (h : l.length = 2) : ∃ a b, l = [a, b] := by
  match l, h with
  | [a, b], _ => exact ⟨a, b, rfl⟩
theorem list3 {α : Type} (l : List α) (h : l.length = 3) : ∃ a b c, l = [a, b, c] := by
  match l, h with
  | [a, b, c], _ => exact ⟨a, b, c, rfl⟩
theorem cells3 : Try.prog.cellsOf 3 = 1 := by kernel_rfl
theorem cells4 : Try.prog.cellsOf 4 = 1 := by kernel_rfl
theorem open_pace {H : Type} {enc : TypeId × Value → H} {W : World} {base : Nat} {v : Value} {d : DataW H} {ps : List MemPlace} (h : DataW.Trod enc Try.prog W 0 (fun _ => true) true 23 v d ps) (hv : Value.okWide Try.prog W .any base 23 v) :
    ∃ r0 r1 r2, v = paV r0 r1 r2 := by
  obtain ⟨fuel, hf⟩ := h
  obtain ⟨cs, rfl, hs⟩ := okWide_struct Try.underlying23 hv
  have hc : Try.prog.cellsOf 23 = 3 := by kernel_rfl
  rw [hc] at hs
  obtain ⟨l⟩ := cs
  obtain ⟨v0, v1, v2, rfl⟩ := list3 l (by simpa using hs)
  obtain ⟨xs, k, _, _, _, hxl, hx⟩ := DataW.trod_struct Try.underlying23 hf
  obtain ⟨y0, y1, y2, rfl⟩ := list3 xs hxl
  have g0 : DataW.trod enc Try.prog W 0 (fun _ => true) true k 3 (([v0, v1, v2].drop 0).take (Try.prog.cellsOf 3)) = some y0 := hx 0 _ rfl
  have g1 : DataW.trod enc Try.prog W 0 (fun _ => true) true k 3 (([v0, v1, v2].drop 1).take (Try.prog.cellsOf 3)) = some y1 := hx 1 _ rfl
  have g2 : DataW.trod enc Try.prog W 0 (fun _ => true) true k 3 (([v0, v1, v2].drop 2).take (Try.prog.cellsOf 3)) = some y2 := hx 2 _ rfl
  rw [cells3] at g0 g1 g2
  obtain ⟨z0, q0, _, w0⟩ := DataW.trod_int Try.underlying3 (x := y0) g0
  obtain ⟨z1, q1, _, w1⟩ := DataW.trod_int Try.underlying3 (x := y1) g1
  obtain ⟨z2, q2, _, w2⟩ := DataW.trod_int Try.underlying3 (x := y2) g2
  simp at q0 q1 q2
  subst q0 q1 q2
  exact ⟨z0, z1, z2, rfl⟩
set_option maxRecDepth 100000 in
theorem open_ints {H : Type} {enc : TypeId × Value → H} {W : World} {base : Nat} {v : Value} {d : DataW H} {ps : List MemPlace} (h : DataW.Trod enc Try.prog W 0 (fun _ => true) true 24 v d ps) (hv : Value.okWide Try.prog W .any base 24 v) :
    ∃ (oa : Option Addr) (b off len cap : Nat) (V : Nat → Int), v = .slice oa len cap ∧ (0 < len → oa = some ⟨b, off, none⟩) ∧ IntsAt W b off len V ∧ (0 < len → ∃ elems spare, d = .slice elems spare ∧ elems.length = len) := by
  obtain ⟨fuel, hf⟩ := h
  have hc : Try.prog.cellsOf 3 = 1 := by kernel_rfl
  rcases Go.Deep.open_slice Try.underlying24 hf with ⟨h0, _⟩ | ⟨a, len, cap, m, n, D, Pl, h0, _, hl, hm, hmm, hx0, hx⟩
  · have hv0 : v = .slice none 0 0 := by
      obtain ⟨a', l', c', rfl⟩ := okWide_slice Try.underlying24 hv
      simpa [Value.cells] using h0
    exact ⟨none, 0, 0, 0, 0, fun _ => 0, hv0, fun h => absurd h (by omega), ⟨fun i hi => absurd hi (by omega), fun i hi => absurd hi (by omega)⟩, fun h => absurd h (by omega)⟩
  · have hv0 : v = .slice (some a) len cap := by
      obtain ⟨a', l', c', rfl⟩ := okWide_slice Try.underlying24 hv
      simpa [Value.cells] using h0
    have hlm : len ≤ m := by rw [hmm]; simp; exact hl
    rw [hc] at hx
    obtain ⟨f, hfx⟩ := Go.Deep.choose_lt (α := Int) (p := fun i y => W.cell? (a.add (i * 1)) = some (.int .i64 y) ∧ -9223372036854775808 ≤ y ∧ y ≤ 9223372036854775807) (n := len) (fun i hi => by
      obtain ⟨cs', h1, h2⟩ := hx i (by omega)
      obtain ⟨_, hlen, hcell⟩ := World.cells?_some h1
      obtain ⟨v0, rfl⟩ := list1 cs' hlen
      obtain ⟨z0, q0, _, w0⟩ := DataW.trod_int Try.underlying3 h2
      simp at q0
      subst q0
      have e := hcell 0 (by omega)
      rw [Go.Deep.add_add] at e
      exact ⟨z0, e, wf_i64 w0⟩)
    obtain ⟨b, off, spot⟩ := a
    have hspot : 0 < len → spot = none := fun hp => by
      have h9 := (hfx 0 hp).1
      simpa [Addr.add] using World.cell?_spot h9
    refine ⟨some ⟨b, off, spot⟩, b, off, len, cap, f, hv0, ?_, ⟨fun i hi => ?_, fun i hi => (hfx i hi).2⟩, fun _ => ?_⟩
    · intro hp
      rw [hspot hp]
    · have hs := hspot (by omega)
      subst hs
      have := (hfx i hi).1
      rw [Nat.mul_one, Go.WideShapes.add_plain] at this
      exact this
    · obtain ⟨e1, _⟩ := Prod.mk.inj hx0
      exact ⟨_, _, e1, by simp⟩
/-- steps that lie in memory -/
structure TicksAt (w : World) (b off len : Nat) (T : Nat → Bool × Int) : Prop where
  c0 : ∀ i, i < len → w.cell? ⟨b, off + i * 2, none⟩ = some (.bool (T i).1)
  c1 : ∀ i, i < len → w.cell? ⟨b, off + i * 2 + 1, none⟩ = some (.int .i64 (T i).2)
set_option maxRecDepth 100000 in
theorem open_ticks {H : Type} {enc : TypeId × Value → H} {W : World} {base : Nat} {v : Value} {d : DataW H} {ps : List MemPlace} (h : DataW.Trod enc Try.prog W 0 (fun _ => true) true 30 v d ps) (hv : Value.okWide Try.prog W .any base 30 v) :
    ∃ (oa : Option Addr) (b off len cap : Nat) (T : Nat → Bool × Int), v = .slice oa len cap ∧ (0 < len → oa = some ⟨b, off, none⟩) ∧ TicksAt W b off len T ∧ (0 < len → ∃ elems spare, d = .slice elems spare ∧ elems.length = len) := by
  obtain ⟨fuel, hf⟩ := h
  have hc : Try.prog.cellsOf 40 = 2 := by kernel_rfl
  rcases Go.Deep.open_slice Try.underlying30 hf with ⟨h0, _⟩ | ⟨a, len, cap, m, n, D, Pl, h0, _, hl, hm, hmm, hx0, hx⟩
  · have hv0 : v = .slice none 0 0 := by
      obtain ⟨a', l', c', rfl⟩ := okWide_slice Try.underlying30 hv
      simpa [Value.cells] using h0
    exact ⟨none, 0, 0, 0, 0, fun _ => (false, 0), hv0, fun h => absurd h (by omega), ⟨fun i hi => absurd hi (by omega), fun i hi => absurd hi (by omega)⟩, fun h => absurd h (by omega)⟩
  · have hv0 : v = .slice (some a) len cap := by
      obtain ⟨a', l', c', rfl⟩ := okWide_slice Try.underlying30 hv
      simpa [Value.cells] using h0
    have hlm : len ≤ m := by rw [hmm]; simp; exact hl
    rw [hc] at hx
    obtain ⟨f, hfx⟩ := Go.Deep.choose_lt (α := Bool × Int) (p := fun i y => W.cell? (a.add (i * 2)) = some (.bool y.1) ∧ W.cell? (a.add (i * 2 + 1)) = some (.int .i64 y.2)) (n := len) (fun i hi => by
      obtain ⟨cs', h1, h2⟩ := hx i (by omega)
      obtain ⟨_, hlen, hcell⟩ := World.cells?_some h1
      obtain ⟨v0, v1, rfl⟩ := list2 cs' hlen
      obtain ⟨xs, k, _, _, _, hxl, hz⟩ := DataW.trod_struct Try.underlying40 h2
      obtain ⟨y0, y1, rfl⟩ := list2 xs hxl
      have g0 : DataW.trod enc Try.prog W 0 (fun _ => true) true k 4 (([v0, v1].drop 0).take (Try.prog.cellsOf 4)) = some y0 := hz 0 _ rfl
      have g1 : DataW.trod enc Try.prog W 0 (fun _ => true) true k 3 (([v0, v1].drop 1).take (Try.prog.cellsOf 3)) = some y1 := hz 1 _ rfl
      rw [cells4] at g0
      rw [cells3] at g1
      obtain ⟨z0, q0, _⟩ := DataW.trod_bool Try.underlying4 (x := y0) g0
      obtain ⟨z1, q1, _, w1⟩ := DataW.trod_int Try.underlying3 (x := y1) g1
      simp at q0 q1
      subst q0 q1
      have e0 := hcell 0 (by omega)
      have e1 := hcell 1 (by omega)
      rw [Go.Deep.add_add] at e0 e1
      exact ⟨(z0, z1), e0, e1⟩)
    obtain ⟨b, off, spot⟩ := a
    have hspot : 0 < len → spot = none := fun hp => by
      have h9 := (hfx 0 hp).1
      simpa [Addr.add] using World.cell?_spot h9
    refine ⟨some ⟨b, off, spot⟩, b, off, len, cap, f, hv0, ?_, ⟨fun i hi => ?_, fun i hi => ?_⟩, fun _ => ?_⟩
    · intro hp
      rw [hspot hp]
    · have hs := hspot (by omega)
      subst hs
      have := (hfx i hi).1
      rw [Go.WideShapes.add_plain] at this
      exact this
    · have hs := hspot (by omega)
      subst hs
      have := (hfx i hi).2
      rw [Go.WideShapes.add_plain, ← Nat.add_assoc] at this
      exact this
    · obtain ⟨e1, _⟩ := Prod.mk.inj hx0
      exact ⟨_, _, e1, by simp⟩
end Go.Proofs.Ytpimdiliibokbaa
