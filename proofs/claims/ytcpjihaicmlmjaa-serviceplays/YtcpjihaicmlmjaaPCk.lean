/- What is handed in, opened: numbers. -/
import Derived.Test.YtcpjihaicmlmjaaPFr
import Derived.Test.YtcpjihaicmlmjaaPSc
import Derived.SizedLaws
namespace Go.Proofs.Ytcpjihaicmlmjaa
open Go.ChangeMaps Go.ChangeShapes Go.WideShapes Go.ChangeAt Go.RowKit
theorem wf_i64 {n : Int} (h : (Lit.int .i64 n).wf = true) : I64 n := by
  have hmin : IntKind.i64.min = -9223372036854775808 := rfl
  have hmax : IntKind.i64.max = 9223372036854775807 := rfl
  simp only [Lit.wf, Bool.and_eq_true, decide_eq_true_eq] at h
  unfold I64
  omega
theorem cells3 : Try.prog.cellsOf 3 = 1 := by kernel_rfl
theorem bytes3 : Try.prog.bytesOf 3 = 8 := by kernel_rfl
/-- a list of numbers, opened -/
theorem ints_up {H : Type} {enc : TypeId × Value → H} {w : World} {sp : Nat → Bool} {held : Bool} {fuel : Nat} {v : Value} {x : DataW H × List MemPlace} (h : DataW.trod enc Try.prog w 0 sp held fuel 32 [v] = some x) :
    ∃ (gs : List Int) (oa : Option Addr) (cap : Nat), v = .slice oa gs.length cap ∧ GsAt w w.heap.size oa gs ∧ (∀ i, i < gs.length → I64 (gs.getD i 0)) ∧ (0 < gs.length → ∃ elems spare, x.1 = .slice elems spare ∧ elems.length = gs.length) := by
  rcases DataW.trod_slice Try.underlying32 h with ⟨h5, _⟩ | ⟨a, len, cap, elems, rest, n', hn, h5, hx, _, hlc, hcm, hel, hrow, _⟩
  · rw [List.cons.injEq] at h5
    exact ⟨[], none, 0, h5.1, fun h0 => by simp at h0, fun i hi => by simp at hi, fun h0 => by simp at h0⟩
  · rw [List.cons.injEq] at h5
    rw [cells3] at hrow
    have hone : ∀ i, i < len → ∃ z : Int, w.cell? (a.add i) = some (.int .i64 z) ∧ I64 z := by
      intro i hi
      have hr := hrow i hi
      obtain ⟨y, hy⟩ : ∃ y, elems[i]? = some y := ⟨elems[i]'(by omega), List.getElem?_eq_getElem (by omega)⟩
      rw [hy, Option.bind_eq_some_iff] at hr
      obtain ⟨ds, hd1, hd2⟩ := hr
      obtain ⟨_, hdl, hdc⟩ := World.cells?_some hd1
      obtain ⟨z, hz, _, hwf⟩ := DataW.trod_int Try.underlying3 hd2
      have g0 := hdc 0 (by omega)
      rw [hz, Addr.add_zero', Nat.mul_one] at g0
      exact ⟨z, by simpa using g0, wf_i64 hwf⟩
    obtain ⟨f, hf⟩ : ∃ f : Nat → Int, ∀ i, i < len → w.cell? (a.add i) = some (.int .i64 (f i)) ∧ I64 (f i) :=
      ⟨fun i => if hi : i < len then (hone i hi).choose else 0, fun i hi => by simp only [dif_pos hi]; exact (hone i hi).choose_spec⟩
    have e : ∀ i, i < len → ((List.range len).map f).getD i 0 = f i := fun i hi => by rw [List.getD_eq_getElem?_getD]; simp [hi]
    refine ⟨(List.range len).map f, some a, cap, by simpa using h5.1, fun h0 => ?_, fun i hi => ?_, fun _ => ⟨_, _, by rw [hx], by simpa using hel⟩⟩
    · have h0' : 0 < len := by simpa using h0
      obtain ⟨g, o, spot⟩ := a
      have hc := (hf 0 h0').1
      rw [Addr.add_zero'] at hc
      have hspot : spot = none := World.cell?_spot hc
      subst hspot
      refine ⟨g, o, rfl, World.block_lt_of_cell? w _ hc, fun i hi => ?_⟩
      have hi' : i < len := by simpa using hi
      have := (hf i hi').1
      rw [e i hi']
      simp only [Go.WideShapes.add_plain] at this
      exact this
    · have hi' : i < len := by simpa using hi
      rw [e i hi']
      exact (hf i hi').2
end Go.Proofs.Ytcpjihaicmlmjaa
