/- The argument, opened. -/
import Derived.Test.YtedbjceeakmjgaaGreatDoorZe
import Derived.ProofKit
import Derived.OpenShut
import Derived.LaidMore
import Derived.Lay
import Derived.SevenTiedAt
import Derived.Stop.Joined
import Derived.ChangeMaps5
import Derived.Carry
import Derived.LaidHandle
import Derived.Deep.Slices
namespace Go.Proofs.YtedbjceeakmjgaaGreatDoor
open Go.ChangeMaps Go.ChangeShapes Go.WideShapes Go.ChangeAt Go.RowKit
theorem own : ownKnob Tryz.prog.godebug = none := by kernel_rfl

set_option maxRecDepth 100000 in
/-- The row's step, with the world's shape kept for the contract. -/
theorem lift_law {H : Type} {enc : TypeId × Value → H} {os : Os} {f : FuncId} {fn : Func} {s : ChangeSpec} {X : World → Array Value → Prop}
    (hX : ∀ (w w' : World) (args : Array Value), w.heap = w'.heap → X w args → X w' args) (started : os.Started) (noInit : Tryz.checked.prog.inits.idxOf? f = none) (hfn : Tryz.checked.prog.funcs[f]? = some fn)
    (witness : ∃ (w : World) (tape : Tape) (i : Input), w.os = os ∧ (w.forCall tape i).Shaped Tryz.checked.prog ∧ i.vars = [] ∧ Input.okWide Tryz.checked.prog (w.forCall tape i) .any w.heap.size f i ∧
      ((s.pre enc Tryz.checked.prog fn [] false (w.forCall tape i).memory i.args ∧ X (w.forCall tape i).memory i.args) ∧ sizedMet enc Tryz.checked.prog fn (OpenSpec.ofChange s) false (w.forCall tape i).memory i.args) ∧ ({} : Assume).holds Tryz.checked.prog (lone (Frame.enter Tryz.checked.prog f i.args .normal) [] (w.forCall tape i)))
    (contract : ∀ (W : World) (base : Nat) (args : Array Value) (ds gs : List (DataW H)) (before : List MemPlace),
      (∀ (j : Nat) t v, fn.params[j]? = some t → args[j]? = some v → Value.okWide Tryz.checked.prog W .any base t v) →
      DataW.Whole enc Tryz.checked.prog fn.params.toList s.vars false W args.toList ds gs before →
      (DataW.weightsEach Tryz.checked.prog (fn.params.toList ++ s.plain.varTypes Tryz.checked.prog) (ds ++ gs)).all (· ≤ reachBytes) = true → X W args → W.ShapedOpen Tryz.checked.prog →
      Calls Tryz.checked.prog f args W fun e W' => ∃ v, e = .returned v ∧ s.post enc Tryz.checked.prog fn false true false false W args v W') :
    ReturnsInHanded {} Tryz.checked os f .any (fun w args => (s.pre enc Tryz.checked.prog fn [] false w args ∧ X w args) ∧ sizedMet enc Tryz.checked.prog fn (OpenSpec.ofChange s) false w args) (s.post enc Tryz.checked.prog fn false true false false) := by
  refine returnsInHanded_of_calls own started noInit witness ?_
  intro w tape i _ hsh _ hok hpre _
  obtain ⟨_, _, _, fn', hfn', _, _, _, _, hval⟩ := hok
  obtain rfl : fn' = fn := Option.some.inj (hfn'.symm.trans hfn)
  obtain ⟨⟨⟨ds, gs, before, hw, _⟩, hx⟩, hz⟩ := hpre
  refine (contract (w.forCall tape i) w.heap.size i.args ds gs before hval (DataW.Whole.of_heap (w' := w.forCall tape i) (by rfl) hw) (hz.weights hw) (hX _ _ _ (by rfl) hx) hsh).mono ?_
  rintro e W' ⟨v, rfl, hp⟩
  exact ChangeSpec.post_blind hp

theorem cellsI : Tryz.prog.cellsOf 3 = 1 := by kernel_rfl
theorem cellsCa : Tryz.prog.cellsOf 23 = 4 := by kernel_rfl
theorem cellsCo : Tryz.prog.cellsOf 25 = 5 := by kernel_rfl
theorem err_types : Tryz.prog.types.size = 327 := by kernel_rfl
theorem list2 {α : Type} (l : List α) (h : l.length = 2) : ∃ a b, l = [a, b] := by
  match l, h with
  | [a, b], _ => exact ⟨a, b, rfl⟩
theorem list4 {α : Type} (l : List α) (h : l.length = 4) : ∃ a b c d, l = [a, b, c, d] := by
  match l, h with
  | [a, b, c, d], _ => exact ⟨a, b, c, d, rfl⟩
theorem list5 {α : Type} (l : List α) (h : l.length = 5) : ∃ a b c d e, l = [a, b, c, d, e] := by
  match l, h with
  | [a, b, c, d, e], _ => exact ⟨a, b, c, d, e, rfl⟩
section
variable {H : Type} {enc : TypeId × Value → H} {w : World} {sp : Nat → Bool} {held : Bool}
theorem cache_up {fuel : Nat} {cs : List Value} {x : DataW H × List MemPlace} (h : DataW.trod enc Tryz.prog w 0 sp held fuel 23 cs = some x) :
    ∃ a b c d : Int, cs = [.int .i64 a, .int .i64 b, .int .i64 c, .int .i64 d] := by
  obtain ⟨xs, n, _, _, hl, hlen, hall⟩ := DataW.trod_struct Tryz.underlying23 h
  rw [cellsCa] at hl
  obtain ⟨v0, v1, v2, v3, rfl⟩ := list4 cs hl
  obtain ⟨y0, y1, y2, y3, rfl⟩ := list4 xs hlen
  have e0 := hall 0 { name := "Clients", type := 3, offset := 0, embedded := false, tag := "", pkgPath := "", byteOffset := 0 } rfl
  have e1 := hall 1 { name := "Entries", type := 3, offset := 1, embedded := false, tag := "", pkgPath := "", byteOffset := 8 } rfl
  have e2 := hall 2 { name := "Bytes", type := 3, offset := 2, embedded := false, tag := "", pkgPath := "", byteOffset := 16 } rfl
  have e3 := hall 3 { name := "Reserve", type := 3, offset := 3, embedded := false, tag := "", pkgPath := "", byteOffset := 24 } rfl
  dsimp only at e0 e1 e2 e3
  rw [cellsI] at e0 e1 e2 e3
  obtain ⟨z0, hz0, _, _⟩ := DataW.trod_int Tryz.underlying3 (cs := [v0]) (x := y0) e0
  obtain ⟨z1, hz1, _, _⟩ := DataW.trod_int Tryz.underlying3 (cs := [v1]) (x := y1) e1
  obtain ⟨z2, hz2, _, _⟩ := DataW.trod_int Tryz.underlying3 (cs := [v2]) (x := y2) e2
  obtain ⟨z3, hz3, _, _⟩ := DataW.trod_int Tryz.underlying3 (cs := [v3]) (x := y3) e3
  rw [List.cons.injEq] at hz0 hz1 hz2 hz3
  exact ⟨z0, z1, z2, z3, by rw [hz0.1, hz1.1, hz2.1, hz3.1]⟩
theorem config_up {fuel : Nat} {cs : List Value} {x : DataW H × List MemPlace} (h : DataW.trod enc Tryz.prog w 0 sp held fuel 25 cs = some x) :
    ∃ a c e b r : Int, cs = [.int .i64 a, .int .i64 c, .int .i64 e, .int .i64 b, .int .i64 r] := by
  obtain ⟨xs, n, _, _, hl, hlen, hall⟩ := DataW.trod_struct Tryz.underlying25 h
  rw [cellsCo] at hl
  obtain ⟨v0, v1, v2, v3, v4, rfl⟩ := list5 cs hl
  obtain ⟨y0, y1, rfl⟩ := list2 xs hlen
  have e0 := hall 0 { name := "Address", type := 3, offset := 0, embedded := false, tag := "", pkgPath := "", byteOffset := 0 } rfl
  have e1 := hall 1 { name := "Cache", type := 23, offset := 1, embedded := false, tag := "", pkgPath := "", byteOffset := 8 } rfl
  dsimp only at e0 e1
  rw [cellsI] at e0
  rw [cellsCa] at e1
  obtain ⟨z0, hz0, _, _⟩ := DataW.trod_int Tryz.underlying3 (cs := [v0]) (x := y0) e0
  obtain ⟨z1, z2, z3, z4, hp⟩ := cache_up (cs := [v1, v2, v3, v4]) (x := y1) e1
  rw [List.cons.injEq] at hz0
  simp only [List.cons.injEq, and_true] at hp
  exact ⟨z0, z1, z2, z3, z4, by rw [hz0.1, hp.1, hp.2.1, hp.2.2.1, hp.2.2.2]⟩
end
end Go.Proofs.YtedbjceeakmjgaaGreatDoor
