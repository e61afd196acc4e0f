/- From a contract to the row: the frame of the plain rows. -/
import Derived.Test.YtcpjihaicmlmjaaRows
import Derived.ProofKit
import Derived.OpenShut
import Derived.LaidMore
import Derived.Lay
import Derived.SevenTiedAt
import Derived.Stop.Joined
import Derived.ChangeMaps5
import Derived.Carry
import Derived.LaidHandle
import Derived.Deep.Slices
namespace Go.Proofs.Ytcpjihaicmlmjaa
open Go.ChangeMaps Go.ChangeShapes Go.WideShapes Go.ChangeAt Go.RowKit

theorem own : ownKnob Try.prog.godebug = none := by kernel_rfl

set_option maxRecDepth 100000 in
/-- The row's step. -/
theorem lift_law {H : Type} {enc : TypeId × Value → H} {os : Os} {f : FuncId} {fn : Func} {s : ChangeSpec}
    (started : os.Started) (noInit : Try.checked.prog.inits.idxOf? f = none) (hfn : Try.checked.prog.funcs[f]? = some fn)
    (witness : ∃ (w : World) (tape : Tape) (i : Input), w.os = os ∧ (w.forCall tape i).Shaped Try.checked.prog ∧ i.vars = [] ∧ Input.okWide Try.checked.prog (w.forCall tape i) .any w.heap.size f i ∧
      ((s.pre enc Try.checked.prog fn [] false (w.forCall tape i).memory i.args ∧ True) ∧ sizedMet enc Try.checked.prog fn (OpenSpec.ofChange s) false (w.forCall tape i).memory i.args) ∧ ({} : Assume).holds Try.checked.prog (lone (Frame.enter Try.checked.prog f i.args .normal) [] (w.forCall tape i)))
    (contract : ∀ (W : World) (base : Nat) (args : Array Value) (ds gs : List (DataW H)) (before : List MemPlace),
      (∀ (j : Nat) t v, fn.params[j]? = some t → args[j]? = some v → Value.okWide Try.checked.prog W .any base t v) →
      DataW.Whole enc Try.checked.prog fn.params.toList s.vars false W args.toList ds gs before →
      (DataW.weightsEach Try.checked.prog (fn.params.toList ++ s.plain.varTypes Try.checked.prog) (ds ++ gs)).all (· ≤ reachBytes) = true → W.ShapedOpen Try.checked.prog →
      Calls Try.checked.prog f args W fun e W' => ∃ v, e = .returned v ∧ s.post enc Try.checked.prog fn false true false false W args v W') :
    ReturnsInHanded {} Try.checked os f .any (fun w args => s.pre enc Try.checked.prog fn [] false w args ∧ sizedMet enc Try.checked.prog fn (OpenSpec.ofChange s) false w args) (s.post enc Try.checked.prog fn false true false false) := by
  obtain ⟨w0, tape0, i0, k1, k2, k3, k4, ⟨⟨k5, _⟩, k6⟩, k7⟩ := witness
  refine returnsInHanded_of_calls own started noInit ⟨w0, tape0, i0, k1, k2, k3, k4, ⟨k5, k6⟩, k7⟩ ?_
  intro w tape i _ hsh _ hok hpre _
  obtain ⟨_, _, _, fn', hfn', _, _, _, _, hval⟩ := hok
  obtain rfl : fn' = fn := Option.some.inj (hfn'.symm.trans hfn)
  obtain ⟨⟨ds, gs, before, hw, _⟩, hz⟩ := hpre
  refine (contract (w.forCall tape i) w.heap.size i.args ds gs before hval (DataW.Whole.of_heap (w' := w.forCall tape i) (by rfl) hw) (hz.weights hw) hsh).mono ?_
  rintro e W' ⟨v, rfl, hp⟩
  exact ChangeSpec.post_blind hp

theorem list_bytes (s : ByteArray) : (⟨s.data.toList.toArray⟩ : ByteArray) = s := by simp

end Go.Proofs.Ytcpjihaicmlmjaa
