/- What is known of two functions that the kernel doesn't run. -/
import Derived.Test.YtedbjceeakmjgaaGreatDoorZa
import Derived.Test.YtedbjceeakmjgaaGreatDoorEvD6
import Derived.KernelRfl
namespace Go.Proofs.YtedbjceeakmjgaaGreatDoor
open Go.RowKit
def tellsM (f : FuncId) (args : List Value) : Option Value :=
  match Nat.beq f 117, args with
  | true, [.string ⟨⟨l⟩⟩] => match Nat.ble l.length 1048576 with
    | true => some (.string ⟨⟨l⟩⟩)
    | false => none
  | _, _ => none
def givM : Ev.Giv := ⟨fun f => Nat.beq f 115, tellsM⟩
theorem grew_of {w w' : World} (h : Below w.heap.size w w') : Ev.Grew w w' := ⟨h.size, fun b hb => h.block b hb, h.tape, h.os, h.output⟩
theorem givM_ok : Ev.GivOK Tryz.prog givM := by
  refine ⟨fun f hf => ?_, fun f args v hv g args' w ha => ?_⟩
  · have hf2 : f = 115 := Nat.eq_of_beq_eq_true hf
    subst hf2
    refine ⟨by kernel_rfl, fun w => (idle_any w).mono fun e u w' h => ?_⟩
    obtain ⟨rfl, rfl, rfl⟩ := h
    exact ⟨⟨_, rfl⟩, rfl, Nat.le_refl _, fun _ _ => rfl, rfl, rfl, rfl⟩
  · change tellsM f args = some v at hv
    unfold tellsM at hv
    split at hv
    · rename_i l hb
      have hf : f = 117 := Nat.eq_of_beq_eq_true hb
      subst hf
      split at hv
      · rename_i hl
        cases hv
        cases ha with
        | cons h t =>
        cases t
        cases h
        have hsz : (ByteArray.mk ⟨l⟩).size ≤ 281474976710656 := by
          have h1 : l.length ≤ 1048576 := Nat.le_of_ble_eq_true hl
          have h2 : (ByteArray.mk ⟨l⟩).size = l.length := rfl
          omega
        refine (clone_inner ⟨⟨l⟩⟩ w hsz).mono fun e w' h => ?_
        obtain ⟨rfl, hB⟩ := h
        exact ⟨⟨_, rfl, .string _⟩, grew_of hB⟩
      · cases hv
    · cases hv
end Go.Proofs.YtedbjceeakmjgaaGreatDoor
